"""Points 33 to 36: papers and their floors, papers of places and of prices, answers and where they stand."""

import random
import unittest

from rotafair.costs import ChangeCosts, Costs, EvenCosts, LevelCosts, total_of
from rotafair.houses import House, Person
from rotafair.papers import Answer, Found, Paper, Places, Prices, Without
from rotafair.rules import Never
from small_houses import BIG, fields_of, good_rotas, some_costs, some_house, some_rota


def duo(needs, skills=("MN", "M"), mosts=(2, 2), leave=(), carried=(3, 0), wishes=()):
    persons = [
        Person("ann", skills[0], mosts[0], carried[0], "N"), Person("bob", skills[1], mosts[1], carried[1], ""),
    ]
    return House(2, "MN", needs, persons, list(leave), list(wishes), [], [])


NEEDS = [(0, "M", 1, 2), (0, "N", 1, 1), (1, "M", 0, 1), (1, "N", 1, 1)]
EVERY_PLACE = [(day, kind) for day in (0, 1) for kind in "MN"]


def places_floor(house, places):
    """Point 34, by its words."""
    standing = [need for need in house.needs if need[:2] in places]
    can_do = 0
    for p, person in enumerate(house.persons):
        days = 0
        for day in range(house.days):
            days += any(need[0] == day and need[1] in house.may(p, day) for need in standing)
        can_do += min(person.most, days)
    return None if sum(need[2] for need in standing) > can_do else 0


def prices_floor(house, costs, persons, needs):
    """Point 35, by its words."""
    if len(persons) != len(house.persons) or len(needs) != len(house.needs):
        return 0
    total = 0
    for p, person in enumerate(house.persons):
        total += min(costs.of_count(p, many) - persons[p] * many for many in range(person.most + 1))
        for day in range(house.days):
            told = [costs.of_mark(p, day, "-")]
            for number, need in enumerate(house.needs):
                if need[0] == day and need[1] in house.may(p, day):
                    told.append(costs.of_mark(p, day, need[1]) + persons[p] - needs[number])
            total += min(told)
    for number, need in enumerate(house.needs):
        total += min(needs[number] * need[2], needs[number] * need[3])
    return total


class Bases(unittest.TestCase):
    def test_a_paper_of_the_base_class(self):
        dice = random.Random(33)
        for turn in range(20):
            house = some_house(dice, 2, "MN", dice.randint(0, 3))
            for costs in some_costs(dice, house):
                self.assertEqual(Paper().floor(house, costs), 0)

    def test_an_answer_of_the_base_class(self):
        house = House(1, "M", [], [], [], [], [], [])
        self.assertIs(Answer().stands(house, Costs()), False)

    def test_the_classes(self):
        for one, other, base in ((Places, Prices, Paper), (Found, Without, Answer)):
            self.assertTrue(issubclass(one, base) and issubclass(other, base))
            self.assertFalse(issubclass(one, other) or issubclass(other, one))


class PapersOfPlaces(unittest.TestCase):
    def floor(self, house, places):
        told = Places(places).floor(house, EvenCosts(house))
        self.assertEqual(told, places_floor(house, places))
        return told

    def test_enough_hands(self):
        house = duo(NEEDS)
        for places in ([], EVERY_PLACE, [(0, "M")], [(0, "N"), (1, "N")]):
            self.assertEqual(self.floor(house, places), 0)

    def test_by_the_most(self):
        for most, expected in ((0, None), (1, None), (2, 0), (3, 0)):
            self.assertEqual(self.floor(duo(NEEDS, mosts=(most, 2)), [(0, "N"), (1, "N")]), expected)

    def test_by_skills(self):
        self.assertEqual(self.floor(duo(NEEDS, skills=("M", "M")), [(0, "N")]), None)
        self.assertEqual(self.floor(duo(NEEDS, skills=("", "N")), [(0, "N")]), 0)
        self.assertEqual(self.floor(duo(NEEDS, skills=("", "N")), EVERY_PLACE), None)

    def test_by_leave(self):
        self.assertEqual(self.floor(duo(NEEDS, leave=[("ann", 1)]), [(1, "N")]), None)
        self.assertEqual(self.floor(duo(NEEDS, leave=[("ann", 1), ("ann", 1)]), [(0, "N")]), 0)
        self.assertEqual(self.floor(duo(NEEDS, leave=[("bob", 0)]), [(0, "M"), (0, "N")]), None)
        self.assertEqual(self.floor(duo(NEEDS, leave=[("bob", 1)]), EVERY_PLACE), 0)

    def test_a_day_counts_once_for_a_person(self):
        house = duo([(0, "M", 1, 1), (0, "N", 1, 1)], mosts=(14, 0))
        self.assertEqual(self.floor(house, [(0, "M"), (0, "N")]), None)
        self.assertEqual(self.floor(house, [(0, "M")]), 0)

    def test_just_as_many_as_can_be_done(self):
        self.assertEqual(self.floor(duo([(0, "M", 2, 2)]), [(0, "M")]), 0)
        self.assertEqual(self.floor(duo([(0, "M", 3, 3)]), [(0, "M")]), None)

    def test_places_that_are_no_needs_and_places_told_twice(self):
        house = duo([(0, "M", 1, 2), (1, "N", 1, 1)], mosts=(1, 1))
        strange = [(0, "N"), (7, "M"), (-1, "M"), (0, "Q"), (1, "M")]
        self.assertEqual(self.floor(house, strange), 0)
        self.assertEqual(self.floor(house, strange + [(1, "N"), (0, "M")]), 0)
        self.assertEqual(self.floor(house, [(1, "N")] * 5 + [(0, "M")] * 5), 0)
        lacking = duo([(0, "M", 1, 2), (1, "N", 1, 1)], skills=("M", "M"))
        self.assertEqual(self.floor(lacking, strange + [(1, "N")] * 3), None)

    def test_a_kind_on_another_day_does_not_help(self):
        house = duo([(0, "M", 2, 2), (1, "N", 1, 1)], leave=[("ann", 0)])
        self.assertEqual(self.floor(house, [(0, "M"), (1, "N")]), None)

    def test_without_persons_and_without_needs(self):
        house = House(2, "M", [(0, "M", 0, 1), (1, "M", 1, 1)], [], [], [], [], [])
        self.assertEqual(self.floor(house, [(0, "M")]), 0)
        self.assertEqual(self.floor(house, [(0, "M"), (1, "M")]), None)
        self.assertEqual(self.floor(house, []), 0)
        self.assertEqual(self.floor(duo([]), EVERY_PLACE), 0)

    def test_by_chance_and_beside_every_rota(self):
        dice = random.Random(34)
        seen = []
        for turn in range(150):
            house = some_house(dice, 2, "MN", dice.randint(0, 3))
            good = good_rotas(house)
            for look in range(4):
                places = [place for place in EVERY_PLACE + [(0, "Q")] if dice.random() < 0.6]
                costs = dice.choice(some_costs(dice, house))
                told = Places(places).floor(house, costs)
                self.assertEqual(told, places_floor(house, places))
                self.assertFalse(told is None and good)
                seen.append(told)
        self.assertGreater(seen.count(None), 50)
        self.assertGreater(seen.count(0), 50)

    def test_a_list_that_is_changed_behind(self):
        house, places = duo(NEEDS, skills=("M", "M")), [(0, "N")]
        paper = Places(places)
        places.clear()
        self.assertEqual(paper.places, [(0, "N")])
        self.assertIsNone(paper.floor(house, Costs()))


class PapersOfPrices(unittest.TestCase):
    def test_by_numbers(self):
        house = duo(NEEDS)
        self.assertEqual(Prices([0, 0], [0, 0, 0, 0]).floor(house, Costs()), 0)
        # Persons: min(0, -5, -10) and min(0, 0, 0); days: each 0 or less; needs: 1 * 1, 1 * 2, 0, 1 * 1.
        self.assertEqual(Prices([5, 0], [1, 2, 0, 1]).floor(house, Costs()), -10 + (0 + 0 - 1 + 0) + 1 + 2 + 0 + 1)
        self.assertEqual(Prices([0, 0], [-1, 0, -1, 0]).floor(house, Costs()), -2 - 1)

    def test_counts_from_none_to_the_most(self):
        house = duo([], mosts=(2, 0), carried=(3, 4))
        self.assertEqual(Prices([0, 0], []).floor(house, EvenCosts(house)), 9 + 16)
        self.assertEqual(Prices([100, 100], []).floor(house, EvenCosts(house)), 25 - 200 + 16)
        self.assertEqual(Prices([8, 0], []).floor(house, EvenCosts(house)), 8 + 16)
        self.assertEqual(Prices([-9, -9], []).floor(house, EvenCosts(house)), 9 + 16)

    def test_lists_that_are_shorter_or_longer(self):
        house = duo(NEEDS)
        self.assertLess(Prices([9, 9], [1, 1, 1, 1]).floor(house, Costs()), 0)
        for persons in ([], [9], [9, 9, 9]):
            self.assertEqual(Prices(persons, [1, 1, 1, 1]).floor(house, Costs()), 0)
        for needs in ([], [1, 1, 1], [1, 1, 1, 1, 1]):
            self.assertEqual(Prices([9, 9], needs).floor(house, Costs()), 0)
        self.assertEqual(Prices([9], [1]).floor(house, EvenCosts(house)), 0)

    def test_marks_that_a_person_may_not_have_count_nothing(self):
        house = duo([(0, "N", 0, 1)], skills=("M", "N"), leave=[("bob", 0)], carried=(0, 0))
        self.assertEqual(Prices([0, 0], [50]).floor(house, Costs()), 0)
        house = duo([(0, "N", 0, 0)], skills=("N", "N"), carried=(0, 0))
        self.assertEqual(Prices([0, 0], [50]).floor(house, Costs()), 0)

    def test_marks_and_wishes(self):
        house = duo([(0, "N", 0, 1)], carried=(0, 0), wishes=[("ann", 0, "N"), ("ann", 0, "N"), ("bob", 1, "M")])
        self.assertEqual(Prices([0, 0], [0]).floor(house, EvenCosts(house)), 1)
        self.assertEqual(Prices([1, 0], [0]).floor(house, EvenCosts(house)), 1 + 1)
        self.assertEqual(Prices([4, 0], [0]).floor(house, EvenCosts(house)), 2 + 1)
        self.assertEqual(Prices([5, 0], [0]).floor(house, EvenCosts(house)), -1 + 2 + 1)

    def test_without_persons_and_without_needs(self):
        house = House(2, "M", [(0, "M", 1, 3)], [], [], [], [], [])
        for price, expected in ((5, 5), (0, 0), (-5, -15)):
            self.assertEqual(Prices([], [price]).floor(house, EvenCosts(house)), expected)
        self.assertEqual(Prices([], []).floor(House(2, "M", [], [], [], [], [], []), Costs()), 0)
        self.assertEqual(Prices([3, 3], []).floor(duo([]), LevelCosts(duo([]), 0)), 3 - 4 - 4)

    def test_any_prices_beside_every_rota(self):
        dice = random.Random(35)
        looked = 0
        for turn in range(120):
            house = some_house(dice, 2, "MN", dice.randint(0, 3))
            good = good_rotas(house)
            for costs in some_costs(dice, house):
                least = min([total_of(house, costs, rota) for rota in good], default=None)
                for bound in (2, 20, 3 * BIG):
                    persons = [dice.randint(-bound, bound) for person in house.persons]
                    needs = [dice.randint(-bound, bound) for need in house.needs]
                    told = Prices(persons, needs).floor(house, costs)
                    self.assertIs(type(told), int)
                    self.assertEqual(told, prices_floor(house, costs, persons, needs))
                    if good:
                        self.assertLessEqual(told, least)
                        looked += 1
        self.assertGreater(looked, 300)

    def test_a_house_with_rules_and_pairs(self):
        dice = random.Random(36)
        rules, pairs = [("all", Never("MM")), ("ann", Never("N"))], [("apart", "ann", "bob"), ("with", "bob", "ann")]
        for turn in range(60):
            house = some_house(dice, 2, "MN", 2, rules, pairs)
            bare = House(2, "MN", house.needs, house.persons, house.leave, house.wishes, [], [])
            for costs in some_costs(dice, house):
                paper = Prices([dice.randint(-9, 9) for p in (0, 1)], [dice.randint(-9, 9) for need in house.needs])
                told = paper.floor(house, costs)
                self.assertEqual(told, paper.floor(bare, costs))
                for rota in good_rotas(house):
                    self.assertLessEqual(told, total_of(house, costs, rota))

    def test_lists_that_are_changed_behind(self):
        house, persons, needs = duo(NEEDS), [5, 0], [1, 2, 0, 1]
        paper = Prices(persons, needs)
        first = paper.floor(house, Costs())
        persons.append(1)
        needs[0] = 99
        self.assertEqual((paper.persons, paper.needs), ([5, 0], [1, 2, 0, 1]))
        self.assertEqual(paper.floor(house, Costs()), first)

    def test_nothing_handed_in_is_changed(self):
        dice = random.Random(37)
        house = some_house(dice, 3, "MN", 3)
        before = fields_of(house)
        papers = [Paper(), Places(EVERY_PLACE), Prices([1, 2, 3], [4] * len(house.needs))]
        for paper in papers:
            for costs in some_costs(dice, house):
                self.assertEqual(paper.floor(house, costs), paper.floor(house, costs))
        self.assertEqual(fields_of(house), before)


class Answers(unittest.TestCase):
    # One person, who must come on the one day: they have carried 3, so the total is 16.
    HOUSE = House(1, "MN", [(0, "M", 1, 1)], [Person("ann", "M", 1, 3, "")], [], [], [], [])
    LACKING = House(1, "MN", [(0, "M", 1, 1)], [Person("ann", "N", 1, 3, "")], [], [], [], [])

    def test_found(self):
        costs = EvenCosts(self.HOUSE)
        paper = Prices([7], [7])
        self.assertEqual(paper.floor(self.HOUSE, costs), 16)
        self.assertIs(Found(["M"], 16, paper).stands(self.HOUSE, costs), True)

    def test_found_with_something_else(self):
        costs = EvenCosts(self.HOUSE)
        paper = Prices([7], [7])
        for answer in (
            Found(["-"], 16, paper), Found(["N"], 16, paper), Found(["-"], 9, paper), Found(["M"], 15, paper),
            Found(["M"], 17, paper), Found(["M"], 16, Prices([0], [0])), Found(["M"], 16, Prices([7], [])),
            Found(["M"], 9, Prices([0], [0])), Found(["M"], 16, Paper()), Found(["M"], 16, Places([(0, "M")])),
            Found(["M"], 0, Paper()),
        ):
            self.assertIs(answer.stands(self.HOUSE, costs), False)

    def test_found_by_other_costs(self):
        answer = Found(["M"], 16, Prices([7], [7]))
        for costs in (Costs(), LevelCosts(self.HOUSE, 0), ChangeCosts(self.HOUSE, ["-"])):
            self.assertIs(answer.stands(self.HOUSE, costs), False)
        self.assertIs(Found(["M"], 1, Prices([1], [1])).stands(self.HOUSE, LevelCosts(self.HOUSE, 3)), True)
        self.assertIs(Found(["M"], 1, Prices([0], [1])).stands(self.HOUSE, ChangeCosts(self.HOUSE, ["-"])), True)
        self.assertIs(Found(["M"], 0, Paper()).stands(self.HOUSE, ChangeCosts(self.HOUSE, ["M"])), True)
        self.assertIs(Found(["M"], 0, Paper()).stands(self.HOUSE, Costs()), True)

    def test_found_with_a_fault_alone(self):
        bound = House(1, "MN", self.HOUSE.needs, self.HOUSE.persons, [], [], [("ann", Never("M"))], [])
        self.assertIs(Found(["M"], 0, Paper()).stands(bound, Costs()), False)
        idle = House(1, "MN", [], self.HOUSE.persons, [], [], [("ann", Never("-"))], [])
        self.assertIs(Found(["-"], 0, Paper()).stands(idle, Costs()), False)
        self.assertIs(Found(["-"], 0, Paper()).stands(House(1, "M", [], [Person("ann", "", 0, 0, "")], [], [], [], []),
                                                      Costs()), True)

    def test_found_with_a_paper_without_a_floor(self):
        paper = Places([(0, "M")])
        self.assertIsNone(paper.floor(self.LACKING, Costs()))
        self.assertIs(Found(["-"], 0, paper).stands(self.LACKING, Costs()), False)
        self.assertIs(Found(["M"], None, paper).stands(self.LACKING, Costs()), False)

    def test_without(self):
        costs = EvenCosts(self.LACKING)
        self.assertIs(Without(Places([(0, "M")])).stands(self.LACKING, costs), True)
        for paper in (Places([]), Places([(0, "N")]), Paper(), Prices([7], [7])):
            self.assertIs(Without(paper).stands(self.LACKING, costs), False)
        self.assertIs(Without(Places([(0, "M")])).stands(self.HOUSE, costs), False)

    def test_a_floor_of_nought_is_not_none(self):
        self.assertIs(Without(Paper()).stands(self.HOUSE, Costs()), False)

    def test_without_persons(self):
        house = House(1, "M", [(0, "M", 0, 1)], [], [], [], [], [])
        self.assertIs(Found([], 0, Prices([], [0])).stands(house, EvenCosts(house)), True)
        self.assertIs(Found([], 0, Prices([], [-1])).stands(house, EvenCosts(house)), False)

    def test_fields_and_lists_changed_behind(self):
        rota, paper = ["M"], Prices([7], [7])
        answer = Found(rota, 16, paper)
        rota[0] = "-"
        self.assertEqual((answer.rota, answer.total), (["M"], 16))
        self.assertIs(answer.paper, paper)
        self.assertIs(answer.stands(self.HOUSE, EvenCosts(self.HOUSE)), True)
        self.assertIs(Without(paper).paper, paper)

    def test_by_chance(self):
        dice = random.Random(38)
        for turn in range(100):
            house = some_house(dice, 2, "MN", dice.randint(1, 2))
            good, rota = good_rotas(house), some_rota(dice, house)
            for costs in some_costs(dice, house):
                total = total_of(house, costs, rota)
                paper = Prices([0] * len(house.persons), [0] * len(house.needs))
                expected = rota in good and paper.floor(house, costs) == total
                self.assertIs(Found(rota, total, paper).stands(house, costs), expected)
                self.assertIs(Found(rota, total + 1, paper).stands(house, costs), False)


if __name__ == "__main__":
    unittest.main()
