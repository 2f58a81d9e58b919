"""Points 3, 37 and 38: the least answer by flows of a plain house, and how even it is."""

import random
import time
import unittest

from rotafair.costs import ChangeCosts, Costs, EvenCosts, LevelCosts, total_of
from rotafair.houses import House, Person
from rotafair.looks import faults, loads, over, unmet
from rotafair.papers import Found, Places, Prices, Without
from rotafair.plain import least_plain
from rotafair.rules import Never, Not
from small_houses import BIG, NAMES, fields_of, good_rotas, some_costs, some_house

SIZES = ((1, "M", 1), (2, "MN", 2), (2, "MN", 3), (3, "MN", 2), (1, "AMZ", 3), (3, "M", 3), (2, "M", 0))


def some_plain_houses(seed, many):
    dice = random.Random(seed)
    return [some_house(dice, *dice.choice(SIZES)) for turn in range(many)]


def levels_around(house):
    """Every level at which something changes, and some beside."""
    marks = [0] + [person.carried + many for person in house.persons for many in range(house.days + 1)]
    return sorted({level + step for level in marks for step in (-1, 0, 1)} | {-7, 2 * BIG})


class Answers(unittest.TestCase):
    def check(self, house, costs):
        """What point 37 tells of any answer, without a look at other rotas."""
        before = fields_of(house)
        answer = least_plain(house, costs)
        self.assertEqual(fields_of(house), before)
        self.assertIs(answer.stands(house, costs), True)
        if isinstance(answer, Found):
            self.assertIsInstance(answer.paper, Prices)
            self.assertEqual(faults(house, answer.rota), [])
            self.assertEqual(total_of(house, costs, answer.rota), answer.total)
            self.assertEqual(answer.paper.floor(house, costs), answer.total)
            self.assertIs(type(answer.total), int)
            self.assertLessEqual({type(number) for number in answer.paper.persons + answer.paper.needs}, {int})
        else:
            self.assertIsInstance(answer, Without)
            self.assertIsInstance(answer.paper, Places)
            self.assertIsNone(answer.paper.floor(house, costs))
        return answer

    def check_beside_every_rota(self, house, costs, good):
        answer = self.check(house, costs)
        if isinstance(answer, Found):
            self.assertIn(answer.rota, good)
            self.assertEqual(answer.total, min(total_of(house, costs, rota) for rota in good))
        else:
            self.assertEqual(good, [])
        return answer

    def test_by_chance_beside_every_rota(self):
        dice = random.Random(37)
        found = 0
        for house in some_plain_houses(37, 200):
            good = good_rotas(house)
            found += len(good) > 0
            for costs in some_costs(dice, house):
                self.check_beside_every_rota(house, costs, good)
        self.assertGreater(found, 60)
        self.assertLess(found, 180)

    def test_changes_of_a_good_rota(self):
        dice = random.Random(38)
        for house in some_plain_houses(38, 100):
            good = good_rotas(house)
            if good:
                rota = dice.choice(good)
                answer = self.check_beside_every_rota(house, ChangeCosts(house, rota), good)
                self.assertEqual((answer.rota, answer.total), (rota, 0))

    def test_the_least_is_asked(self):
        persons = [Person("ann", "M", 2, 0, ""), Person("bob", "M", 2, 1, "")]
        for least, expected in ((0, 0), (1, 1), (2, 2)):
            house = House(1, "M", [(0, "M", least, 2)], persons, [], [], [], [])
            answer = self.check(house, LevelCosts(house, -9))
            self.assertEqual(answer.total, 19 + expected)
        house = House(1, "M", [(0, "M", 3, 3)], persons, [], [], [], [])
        self.assertEqual(self.check(house, Costs()).paper.places, [(0, "M")])

    def test_the_most_of_a_need(self):
        house = House(1, "M", [(0, "M", 0, 1)], [Person(name, "M", 1, 0, "") for name in NAMES[:3]], [], [], [], [])
        answer = self.check(house, ChangeCosts(house, ["M", "M", "M"]))
        self.assertEqual((sorted(answer.rota), answer.total), (["-", "-", "M"], 2))

    def test_wishes_for_a_duty(self):
        wishes = [("ann", 0, "M"), ("ann", 1, "N"), ("bob", 0, "-")]
        needs = [(0, "M", 1, 1), (1, "M", 0, 1), (1, "N", 1, 1)]
        persons = [Person("ann", "MN", 2, 0, ""), Person("bob", "MN", 2, 0, "")]
        house = House(2, "MN", needs, persons, [], wishes, [], [])
        answer = self.check(house, EvenCosts(house))
        self.assertEqual((answer.rota, answer.total), (["M-", "-N"], 4 * 2 + 1))

    def test_a_wish_is_worth_no_duty(self):
        house = House(2, "M", [(0, "M", 0, 1)], [Person("ann", "M", 2, 0, "")], [], [("ann", 0, "M")] * 60, [], [])
        answer = self.check(house, EvenCosts(house))
        self.assertEqual((answer.rota, answer.total), (["--"], 60))

    def test_carried_burdens(self):
        needs = [(day, "M", 1, 1) for day in range(4)]
        persons = [Person("ann", "M", 4, BIG - 1, ""), Person("bob", "M", 4, BIG, ""), Person("cy", "", 4, 0, "")]
        house = House(4, "M", needs, persons, [], [], [], [])
        answer = self.check(house, EvenCosts(house))
        self.assertEqual(sorted(loads(house, answer.rota)), [0, BIG + 1, BIG + 2])
        self.assertEqual(answer.total, (BIG + 1) ** 2 + (BIG + 2) ** 2)

    def test_mosts(self):
        needs = [(day, "M", 1, 1) for day in range(3)]
        for most, expected in ((0, [0, 3]), (1, [1, 2]), (3, [2, 1])):
            persons = [Person("ann", "M", most, 0, ""), Person("bob", "M", 3, 1, "")]
            house = House(3, "M", needs, persons, [], [], [], [])
            answer = self.check(house, EvenCosts(house))
            self.assertEqual([3 - row.count("-") for row in answer.rota], expected)
        persons = [Person("ann", "M", 1, 0, ""), Person("bob", "M", 1, 1, "")]
        house = House(3, "M", needs, persons, [], [], [], [])
        self.assertEqual(len(self.check(house, EvenCosts(house)).paper.places), 3)

    def test_leave(self):
        persons = [Person("ann", "M", 2, 0, ""), Person("bob", "M", 2, 5, "")]
        needs = [(0, "M", 1, 1), (1, "M", 1, 2)]
        house = House(2, "M", needs, persons, [("ann", 0), ("ann", 0)], [], [], [])
        self.assertEqual(self.check(house, EvenCosts(house)).rota, ["-M", "M-"])
        house = House(2, "M", needs, persons, [("ann", 0), ("bob", 0)], [], [], [])
        self.assertEqual(self.check(house, EvenCosts(house)).paper.places, [(0, "M")])

    def test_without_persons_and_without_needs(self):
        for needs in ([], [(0, "M", 0, 3)], [(0, "M", 0, 0), (1, "M", 0, 8)]):
            house = House(2, "M", needs, [], [], [], [], [])
            answer = self.check(house, EvenCosts(house))
            self.assertEqual((answer.rota, answer.total), ([], 0))
        house = House(2, "M", [(1, "M", 1, 3)], [], [], [], [], [])
        self.assertIsInstance(self.check(house, EvenCosts(house)), Without)
        house = House(2, "M", [], [Person("ann", "M", 2, 4, "M")], [], [("ann", 0, "M")], [], [])
        answer = self.check(house, EvenCosts(house))
        self.assertEqual((answer.rota, answer.total), (["--"], 33))

    def test_a_house_with_rules_and_pairs_is_told_as_if_it_had_none(self):
        dice = random.Random(39)
        rules = [("all", Never("MM")), ("ann", Never("N")), ("bob", Not(Never("#")))]
        pairs = [("apart", "ann", "bob"), ("with", "bob", "ann")]
        for turn in range(80):
            house = some_house(dice, 2, "MN", dice.randint(2, 3), rules, pairs)
            bare = House(2, "MN", house.needs, house.persons, house.leave, house.wishes, [], [])
            good, beside = good_rotas(house), good_rotas(bare)
            for costs in some_costs(dice, house):
                answer, told = least_plain(house, costs), self.check_beside_every_rota(bare, costs, beside)
                if isinstance(told, Found):
                    self.assertEqual(answer.total, told.total)
                    self.assertIn(answer.rota, beside)
                    self.assertEqual(answer.paper.floor(house, costs), told.total)
                    for rota in good:
                        self.assertLessEqual(told.total, total_of(house, costs, rota))
                else:
                    self.assertIs(answer.stands(house, costs), True)
                    self.assertEqual(good, [])

    def test_a_told_list_that_is_changed(self):
        house = House(2, "M", [(0, "M", 1, 1)], [Person("ann", "M", 1, 0, "")], [], [], [], [])
        first = least_plain(house, EvenCosts(house))
        first.rota.clear()
        first.paper.persons.clear()
        second = self.check(house, EvenCosts(house))
        self.assertEqual(second.rota, ["M-"])


class GreatHouses(unittest.TestCase):
    def great(self, dice, least, carried, wishes=60):
        persons = [Person(name, "ABCD", 14, dice.choice(carried), "") for name in NAMES]
        needs = [(day, kind, dice.randint(0, least), 8) for day in range(14) for kind in "ABCD"]
        places = [(dice.choice(NAMES), dice.randrange(14)) for number in range(wishes)]
        leave = [(dice.choice(NAMES), dice.randrange(14)) for number in range(8)]
        told = [place + (dice.choice("ABCD-"),) for place in places]
        return House(14, "ABCD", needs, persons, leave, told, [], [])

    def test_fourteen_days_eight_persons_four_kinds(self):
        dice = random.Random(41)
        begin = time.perf_counter()
        seen = []
        for least in (1, 2, 3, 4):
            house = self.great(dice, least, (0, 5, BIG, BIG - 3))
            for costs in some_costs(dice, house) + [LevelCosts(house, BIG)]:
                answer = least_plain(house, costs)
                self.assertIs(answer.stands(house, costs), True)
                seen.append(isinstance(answer, Found))
        self.assertLess(time.perf_counter() - begin, 60)
        self.assertEqual((seen[0], seen[-1]), (True, False))


class MostEven(unittest.TestCase):
    def test_by_every_level_beside_every_rota(self):
        for house in some_plain_houses(42, 120):
            good = good_rotas(house)
            if good:
                answer = least_plain(house, EvenCosts(house))
                for level in levels_around(house):
                    least = min(over(house, rota, level) for rota in good)
                    self.assertEqual(over(house, answer.rota, level), least, level)
                    costs = LevelCosts(house, level)
                    by_level = least_plain(house, costs)
                    self.assertEqual((by_level.total, by_level.paper.floor(house, costs)), (least, least))

    def test_by_every_level_in_greater_houses(self):
        dice = random.Random(43)
        found = 0
        for turn in range(12):
            house = some_house(dice, 7, "MN", 5)
            answer = least_plain(house, EvenCosts(house))
            found += isinstance(answer, Found)
            for level in levels_around(house):
                costs = LevelCosts(house, level)
                by_level = least_plain(house, costs)
                self.assertIs(isinstance(by_level, Found), isinstance(answer, Found))
                if isinstance(answer, Found):
                    told = over(house, answer.rota, level)
                    self.assertEqual((told, by_level.paper.floor(house, costs)), (by_level.total, told))
        self.assertGreater(found, 2)

    def test_of_the_most_even_ones_the_most_wishes_are_met(self):
        for house in some_plain_houses(44, 80):
            good = good_rotas(house)
            if good:
                answer = least_plain(house, EvenCosts(house))
                even = [rota for rota in good if sorted(loads(house, rota)) == sorted(loads(house, answer.rota))]
                self.assertEqual(unmet(house, answer.rota), min(unmet(house, rota) for rota in even))


if __name__ == "__main__":
    unittest.main()
