"""Point 39: the columns of a day."""

import itertools
import random
import unittest

from rotafair.columns import columns
from rotafair.errors import TooWide
from rotafair.houses import House, Person
from rotafair.rules import Never
from small_houses import NAMES, fields_of, some_house


def house_of(skills, needs, leave=(), pairs=(), kinds="MN", mosts=None, days=2):
    mosts = [14] * len(skills) if mosts is None else mosts
    persons = [Person(name, told, most, 0, "") for name, told, most in zip(NAMES, skills, mosts)]
    return House(days, kinds, needs, persons, list(leave), [], [], list(pairs))


def free(kinds, most=8, days=2):
    return [(day, kind, 0, most) for day in range(days) for kind in kinds]


def columns_by_words(house, day):
    """Point 39, by its words, without its refusal."""
    found = []
    places = {person.name: p for p, person in enumerate(house.persons)}
    for marks in itertools.product(house.kinds + "-", repeat=len(house.persons)):
        good = all(mark == "-" or mark in house.may(p, day) for p, mark in enumerate(marks))
        for kind in house.kinds:
            least, most = house.need(day, kind)
            good = good and least <= marks.count(kind) <= most
        for word, name, other in house.pairs:
            mark, beside = marks[places[name]], marks[places[other]]
            if mark != "-":
                good = good and (mark != beside if word == "apart" else mark == beside)
        if good:
            found.append("".join(marks))
    return sorted(found)


class Columns(unittest.TestCase):
    def test_marks_that_persons_may_have(self):
        house = house_of(["MN", "M", ""], free("MN"))
        self.assertEqual(columns(house, 0), ["---", "-M-", "M--", "MM-", "N--", "NM-"])

    def test_needs(self):
        house = house_of(["MN", "MN"], [(0, "M", 1, 1), (0, "N", 0, 1), (1, "N", 2, 2)])
        self.assertEqual(columns(house, 0), ["-M", "M-", "MN", "NM"])
        self.assertEqual(columns(house, 1), ["NN"])
        house = house_of(["MN", "MN"], [(0, "M", 0, 0), (0, "N", 0, 1), (1, "N", 3, 3)])
        self.assertEqual(columns(house, 0), ["--", "-N", "N-"])
        self.assertEqual(columns(house, 1), [])

    def test_a_day_without_needs(self):
        self.assertEqual(columns(house_of(["MN", "MN"], [(0, "M", 1, 1)]), 1), ["--"])

    def test_skills_and_leave(self):
        house = house_of(["N", "MN"], free("MN"), leave=[("bob", 1), ("bob", 1)])
        self.assertEqual(columns(house, 0), ["--", "-M", "-N", "N-", "NM", "NN"])
        self.assertEqual(columns(house, 1), ["--", "N-"])
        house = house_of(["N", "MN"], [(0, "M", 1, 2)], leave=[("bob", 0)])
        self.assertEqual(columns(house, 0), [])

    def test_apart(self):
        house = house_of(["MN", "MN"], free("MN"), pairs=[("apart", "ann", "bob")])
        self.assertEqual(columns(house, 0), ["--", "-M", "-N", "M-", "MN", "N-", "NM"])

    def test_with(self):
        house = house_of(["MN", "MN"], free("MN"), pairs=[("with", "ann", "bob")])
        self.assertEqual(columns(house, 0), ["--", "-M", "-N", "MM", "NN"])
        house = house_of(["MN", "MN"], free("MN"), pairs=[("with", "bob", "ann")])
        self.assertEqual(columns(house, 0), ["--", "M-", "MM", "N-", "NN"])
        both = [("with", "bob", "ann"), ("with", "ann", "bob"), ("apart", "bob", "cy")]
        house = house_of(["MN", "MN", "M"], free("MN"), pairs=both)
        self.assertEqual(columns(house, 0), ["---", "--M", "MM-", "NN-", "NNM"])
        never = [("with", "ann", "bob"), ("apart", "ann", "bob")]
        self.assertEqual(columns(house_of(["M", "M"], free("M"), pairs=never), 1), ["--", "-M"])

    def test_rules_and_mosts_do_not_matter(self):
        house = house_of(["MN", "M"], free("MN"), mosts=[0, 1])
        bound = House(2, "MN", house.needs, house.persons, [], [], [("all", Never("?"))], [])
        self.assertEqual(columns(bound, 0), ["--", "-M", "M-", "MM", "N-", "NM"])

    def test_without_persons(self):
        self.assertEqual(columns(house_of([], []), 0), [""])
        self.assertEqual(columns(house_of([], free("MN")), 0), [""])
        house = house_of([], [(0, "M", 0, 1), (1, "M", 0, 0), (1, "N", 1, 1)])
        self.assertEqual((columns(house, 0), columns(house, 1)), ([""], []))

    def test_sorted_and_each_once(self):
        house = house_of(["ZBA", "AZ", "B"], free("ZBA"), kinds="ZBA")
        told = columns(house, 1)
        self.assertEqual(told, sorted(set(told)))
        self.assertEqual((told[0], told[-1], len(told)), ("---", "ZZB", 4 * 3 * 2))

    def test_just_256_and_more(self):
        four = free("ABCD", days=1)
        for skills, many in (
            (["ABC"] * 4, 256), (["A"] * 8, 256), (["AB"] * 5, 243), (["ABC", "ABC", "ABC", "A", "B", ""], 256),
            (["ABCD"] * 3 + ["A"], 250),
        ):
            house = house_of(skills, four, kinds="ABCD", days=1)
            self.assertEqual(len(columns(house, 0)), many)
        for skills in (
            ["A", "AB", "AB", "AC", "ABCD"], ["ABC"] * 4 + ["A"], ["A"] * 7 + ["AB"], ["AB"] * 6, ["ABCD"] * 4,
            ["ABCD"] * 8,
        ):
            self.assertRaises(TooWide, columns, house_of(skills, four, kinds="ABCD", days=1), 0)

    def test_too_many_to_choose_from_though_few_are_good(self):
        needs = [(0, "A", 8, 8), (0, "B", 0, 0), (0, "C", 0, 1), (1, "A", 8, 8)]
        wide = house_of(["AC"] * 8, needs, kinds="ABC")
        self.assertRaises(TooWide, columns, wide, 0)
        self.assertEqual(columns(wide, 1), ["AAAAAAAA"])

    def test_leave_and_needs_make_it_narrow(self):
        needs = [(day, kind, 0, 8) for day in (0, 1) for kind in "AB"]
        wide = house_of(["AB"] * 6, needs, kinds="ABC", leave=[("ann", 1)])
        self.assertRaises(TooWide, columns, wide, 0)
        self.assertEqual(len(columns(wide, 1)), 243)
        self.assertEqual(len(columns(house_of(["ABC"] * 4, needs, kinds="ABC"), 0)), 81)

    def test_by_chance(self):
        dice = random.Random(39)
        for turn in range(250):
            pairs = []
            many = dice.randint(0, 4)
            for number in range(dice.randint(0, 3) if many > 1 else 0):
                pairs.append((dice.choice(("apart", "with")),) + tuple(dice.sample(NAMES[:many], 2)))
            house = some_house(dice, 2, dice.choice(("M", "MN", "NAZ")), many, (), pairs)
            for day in (0, 1):
                self.assertEqual(columns(house, day), columns_by_words(house, day))

    def test_a_told_list_that_is_changed_and_what_is_handed_in(self):
        house = house_of(["MN", "M"], free("MN"), pairs=[("apart", "ann", "bob")])
        before, first = fields_of(house), columns(house, 0)
        kept = list(first)
        first.append("XX")
        first.reverse()
        self.assertEqual(columns(house, 0), kept)
        self.assertEqual(fields_of(house), before)


if __name__ == "__main__":
    unittest.main()
