"""Point 27: the costs, their base and the three under it, and what a rota costs."""

import random
import unittest

from rotafair.costs import ChangeCosts, Costs, EvenCosts, LevelCosts, total_of
from rotafair.houses import House, Person
from rotafair.looks import loads, over, unmet
from small_houses import BIG, fields_of, some_costs, some_house, some_rota


def duo(wishes=(), carried=(3, 0)):
    persons = [Person("ann", "MN", 3, carried[0], "N"), Person("bob", "M", 3, carried[1], "")]
    needs = [(day, kind, 0, 2) for day in range(3) for kind in "MN"]
    return House(3, "MN", needs, persons, [], wishes, [], [])


WISHES = [("ann", 0, "N-"), ("bob", 2, "M"), ("ann", 0, "M"), ("ann", 0, "N-"), ("bob", 1, "-")]


class Base(unittest.TestCase):
    def test_all_is_nought(self):
        costs = Costs()
        for p in range(3):
            for many in range(15):
                self.assertEqual(costs.of_count(p, many), 0)
            for mark in "MN-":
                self.assertEqual(costs.of_mark(p, 1, mark), 0)
        self.assertEqual(total_of(duo(WISHES), costs, ["MNM", "-MM"]), 0)

    def test_none_of_the_three_stands_under_another(self):
        three = (EvenCosts, ChangeCosts, LevelCosts)
        for one in three:
            self.assertTrue(issubclass(one, Costs))
            for other in three:
                self.assertEqual(issubclass(one, other), one == other)

    def test_whole_numbers_that_are_no_truths(self):
        house = duo(WISHES)
        for costs in (Costs(), EvenCosts(house), ChangeCosts(house, ["MNM", "-MM"]), LevelCosts(house, 4)):
            told = [costs.of_count(p, many) for p in (0, 1) for many in range(4)]
            told += [costs.of_mark(p, day, mark) for p in (0, 1) for day in range(3) for mark in "MN-"]
            told.append(total_of(house, costs, ["MNM", "NMM"]))
            self.assertEqual({type(number) for number in told}, {int})


class Even(unittest.TestCase):
    def test_counts_without_wishes(self):
        costs = EvenCosts(duo())
        self.assertEqual([costs.of_count(0, many) for many in range(4)], [9, 16, 25, 36])
        self.assertEqual([costs.of_count(1, many) for many in range(4)], [0, 1, 4, 9])

    def test_counts_weigh_one_more_than_there_are_wishes(self):
        for many in range(len(WISHES) + 1):
            costs = EvenCosts(duo(WISHES[:many]))
            self.assertEqual([costs.of_count(p, 2) for p in (0, 1)], [(many + 1) * 25, (many + 1) * 4])

    def test_great_burdens(self):
        costs = EvenCosts(duo(WISHES, carried=(BIG, BIG - 1)))
        self.assertEqual(costs.of_count(0, 0), 6 * (10 ** 40 - 1) ** 2)
        self.assertEqual(costs.of_count(0, 1), 6 * 10 ** 80)
        self.assertEqual(costs.of_count(1, 14), 6 * (10 ** 40 + 12) ** 2)

    def test_marks(self):
        costs = EvenCosts(duo(WISHES))
        self.assertEqual([costs.of_mark(0, 0, mark) for mark in "MN-"], [2, 1, 1])
        self.assertEqual([costs.of_mark(1, 2, mark) for mark in "MN-"], [0, 1, 1])
        self.assertEqual([costs.of_mark(1, 1, mark) for mark in "MN-"], [1, 1, 0])
        for p, day in ((0, 1), (0, 2), (1, 0)):
            self.assertEqual([costs.of_mark(p, day, mark) for mark in "MN-"], [0, 0, 0])

    def test_the_sum_of_squares_goes_first(self):
        house = duo([("ann", day, "M") for day in range(3)] * 4 + [("bob", day, "-") for day in range(3)] * 4)
        costs = EvenCosts(house)
        self.assertLess(total_of(house, costs, ["---", "MMM"]), total_of(house, costs, ["M--", "-MM"]))
        self.assertLess(total_of(house, costs, ["M--", "-MM"]), total_of(house, costs, ["N--", "-MM"]))

    def test_by_chance(self):
        dice = random.Random(27)
        for turn in range(60):
            house = some_house(dice, dice.randint(1, 5), "AMZ", dice.randint(0, 4))
            rota = some_rota(dice, house)
            squares = sum(load * load for load in loads(house, rota))
            expected = (len(house.wishes) + 1) * squares + unmet(house, rota)
            self.assertEqual(total_of(house, EvenCosts(house), rota), expected)

    def test_what_is_changed_behind(self):
        wishes, persons = list(WISHES), [Person("ann", "M", 1, 4, "")]
        first = duo(wishes)
        costs = EvenCosts(first)
        wishes.append(("ann", 1, "N"))
        wishes[0] = ("ann", 0, "M")
        self.assertEqual(costs.of_count(1, 1), 6)
        self.assertEqual([costs.of_mark(0, 0, mark) for mark in "MN-"], [2, 1, 1])
        self.assertEqual(costs.of_mark(0, 1, "M"), 0)
        house = House(1, "M", [], persons, [], [], [], [])
        costs = EvenCosts(house)
        persons[0] = Person("bob", "M", 1, 9, "")
        self.assertEqual(costs.of_count(0, 1), 25)


class Change(unittest.TestCase):
    def test_counts_and_marks(self):
        costs = ChangeCosts(duo(WISHES), ["M-N", "---"])
        self.assertEqual({costs.of_count(p, many) for p in (0, 1) for many in range(15)}, {0})
        told = [costs.of_mark(0, day, mark) for day in range(3) for mark in "MN-"]
        self.assertEqual(told, [0, 1, 1, 1, 1, 0, 1, 0, 1])
        self.assertEqual([costs.of_mark(1, day, mark) for day in range(3) for mark in "MN-"], [1, 1, 0] * 3)

    def test_totals(self):
        house = duo(WISHES)
        costs = ChangeCosts(house, ["M-N", "---"])
        for rota, expected in (
            (["M-N", "---"], 0), (["M-N", "--M"], 1), (["N-N", "---"], 1), (["N-M", "M--"], 3), (["-M-", "MMM"], 6),
        ):
            self.assertEqual(total_of(house, costs, rota), expected)

    def test_what_is_changed_behind(self):
        rota = ["M-N", "---"]
        costs = ChangeCosts(duo(), rota)
        rota[0] = "---"
        rota.clear()
        self.assertEqual([costs.of_mark(0, 0, mark) for mark in "MN-"], [0, 1, 1])
        self.assertEqual(total_of(duo(), costs, ["M-N", "---"]), 0)


class Level(unittest.TestCase):
    def test_above_at_and_below_a_load(self):
        for level in range(-5, 9):
            costs = LevelCosts(duo(WISHES), level)
            for p, carried in ((0, 3), (1, 0)):
                for many in range(5):
                    self.assertEqual(costs.of_count(p, many), max(0, carried + many - level))
                self.assertEqual({costs.of_mark(p, day, mark) for day in range(3) for mark in "MN-"}, {0})

    def test_by_numbers(self):
        costs = LevelCosts(duo(), 4)
        self.assertEqual([costs.of_count(0, many) for many in range(4)], [0, 0, 1, 2])
        self.assertEqual(LevelCosts(duo(), -2).of_count(1, 0), 2)

    def test_great_burdens(self):
        house = duo(carried=(BIG, 0))
        self.assertEqual([LevelCosts(house, BIG).of_count(0, many) for many in range(3)], [0, 1, 2])
        self.assertEqual(LevelCosts(house, -BIG).of_count(0, 1), 2 * BIG + 1)
        self.assertEqual(LevelCosts(house, 10 ** 40 + 2).of_count(0, 3), 0)

    def test_a_rota_costs_what_lies_over_the_level(self):
        dice = random.Random(28)
        for turn in range(60):
            house = some_house(dice, dice.randint(1, 5), "AMZ", dice.randint(0, 4))
            rota = some_rota(dice, house)
            for level in [-3, 0, 2, 5] + loads(house, rota):
                self.assertEqual(total_of(house, LevelCosts(house, level), rota), over(house, rota, level))

    def test_what_is_changed_behind(self):
        persons = [Person("ann", "M", 1, 4, "")]
        costs = LevelCosts(House(1, "M", [], persons, [], [], [], []), 2)
        persons.clear()
        self.assertEqual(costs.of_count(0, 1), 3)


class Totals(unittest.TestCase):
    def test_without_persons(self):
        house = House(2, "M", [(1, "M", 1, 1)], [], [], [], [], [])
        for costs in (Costs(), EvenCosts(house), ChangeCosts(house, []), LevelCosts(house, -5)):
            self.assertEqual(total_of(house, costs, []), 0)

    def test_counts_and_marks_together(self):
        class Own(Costs):
            def of_count(self, p, many):
                return 1000 * (p + 1) * many

            def of_mark(self, p, day, mark):
                return (p + 1) * (day + 1) * {"M": 1, "N": 10, "-": 100}[mark]

        expected = 1000 * 2 + 2000 * 1 + (1 + 200 + 30) + 2 * (100 + 200 + 3)
        self.assertEqual(total_of(duo(), Own(), ["M-N", "--M"]), expected)

    def test_nothing_handed_in_is_changed(self):
        dice = random.Random(29)
        house = some_house(dice, 3, "MN", 3)
        before, rota = fields_of(house), some_rota(dice, house)
        kept = list(rota)
        for costs in some_costs(dice, house):
            first = total_of(house, costs, rota)
            self.assertEqual(total_of(house, costs, rota), first)
        self.assertEqual((fields_of(house), rota), (before, kept))


if __name__ == "__main__":
    unittest.main()
