"""Points 45, 48, 49 and 50: the least answer, to make, to mend, two persons swapped, onward."""

import itertools
import random
import unittest

from rotafair.book import Book, least_by_book
from rotafair.costs import ChangeCosts, EvenCosts, total_of
from rotafair.deeds import least_answer, make, mend, onward, swapped
from rotafair.errors import Faulty, NoDay, NoName, TooWide
from rotafair.houses import House, Person, absent, rest
from rotafair.looks import faults
from rotafair.papers import Found, Places, Prices, Without
from rotafair.plain import least_plain
from rotafair.rules import Most, Never
from rotafair.texts import shown
from small_houses import BIG, NAMES, fields_of, good_rotas, some_costs, some_house, some_rota

RULES = (Never("MM"), Never("N#"), Most(1, "#", 2), Most(2, "M", 4), Never("-M-"))


def some_houses(seed, turns):
    """Plain ones and others, by turns."""
    dice = random.Random(seed)
    found = []
    for turn in range(turns):
        days, kinds, many = dice.choice(((2, "MN", 2), (3, "M", 2), (3, "MN", 2), (3, "M", 3), (1, "MN", 3)))
        rules, pairs = [], []
        if turn % 2:
            rules = [(dice.choice(("all",) + NAMES[:many]), dice.choice(RULES)) for number in range(dice.randint(0, 2))]
            pairs = [("apart", "ann", "bob"), ("with", "bob", "ann")][:dice.choice((0, 0, 1, 2))]
        found.append(some_house(dice, days, kinds, many, rules, pairs))
    return found


def trio(rules=(), leave=(), pairs=(), wishes=(), mosts=(4, 4, 4)):
    persons = [
        Person("ann", "MN", mosts[0], 3, "NM-MN-"), Person("bob", "MN", mosts[1], 0, "M"),
        Person("cy", "M", mosts[2], BIG, ""),
    ]
    needs = [(day, "M", 1, 2) for day in range(4)] + [(3, "N", 0, 1)]
    return House(4, "MN", needs, persons, list(leave), list(wishes), list(rules), list(pairs))


GOOD = ["MM--", "--MM", "----"]


def good_rotas_behind(house, rota, day):
    """The good rotas that have the same first days."""
    rows = ["".join(marks) for marks in itertools.product(house.kinds + "-", repeat=house.days - day)]
    choices = [[row[:day] + behind for behind in rows] for row in rota]
    return [list(other) for other in itertools.product(*choices) if not faults(house, list(other))]


class Refusals(unittest.TestCase):
    def check_faulty(self, fault, deed, *given):
        with self.assertRaises(Faulty) as caught:
            deed(*given)
        told = caught.exception
        self.assertEqual((told.day, told.word, told.who, told.which), fault)


class LeastAnswers(unittest.TestCase):
    def test_by_flows_or_by_the_book(self):
        dice = random.Random(45)
        for house in some_houses(45, 80):
            for costs in some_costs(dice, house):
                answer = least_answer(house, costs)
                self.assertIs(answer.stands(house, costs), True)
                good = good_rotas(house)
                if isinstance(answer, Found):
                    self.assertIsInstance(answer.paper, Prices if house.plain() else Book)
                    self.assertEqual(answer.total, min(total_of(house, costs, rota) for rota in good))
                else:
                    self.assertIsInstance(answer.paper, Places if house.plain() else Book)
                    self.assertEqual(good, [])

    def test_both_roads_come_to_the_same_total(self):
        dice = random.Random(46)
        for turn in range(60):
            house = some_house(dice, 3, "MN", dice.randint(0, 3))
            for costs in some_costs(dice, house):
                by_flows, by_book = least_plain(house, costs), least_by_book(house, costs)
                self.assertIs(isinstance(by_flows, Found), isinstance(by_book, Found))
                if isinstance(by_flows, Found):
                    self.assertEqual((by_flows.total, least_answer(house, costs).total), (by_book.total,) * 2)

    def test_pairs_alone_and_rules_alone_make_a_house_that_is_not_plain(self):
        for house, paper in (
            (trio(), Prices), (trio(rules=[("ann", Never("Z"))]), Book), (trio(pairs=[("apart", "ann", "cy")]), Book),
        ):
            self.assertIsInstance(make(house).paper, paper)

    def test_make_is_by_even_costs(self):
        for house in some_houses(47, 60):
            answer, told = make(house), least_answer(house, EvenCosts(house))
            self.assertIs(answer.stands(house, EvenCosts(house)), True)
            self.assertIs(isinstance(answer, Found), isinstance(told, Found))
            if isinstance(answer, Found):
                self.assertEqual(answer.total, told.total)

    def test_too_wide_but_never_for_a_plain_house(self):
        persons = [Person(name, "AB", 14, 0, "") for name in NAMES[:6]]
        needs = [(0, "A", 1, 8), (0, "B", 1, 8)]
        plain = House(1, "AB", needs, persons, [], [], [], [])
        self.assertEqual(make(plain).total, 2)
        bound = House(1, "AB", needs, persons, [], [], [("all", Never("Z"))], [])
        self.assertRaises(TooWide, make, bound)
        self.assertRaises(TooWide, least_answer, bound, EvenCosts(bound))


class Mended(Refusals):
    def check(self, house, rota, day, away):
        """What point 48 tells, beside every rota of the house with these away."""
        before, kept, gone = fields_of(house), list(rota), list(away)
        answer = mend(house, rota, day, away)
        self.assertEqual((fields_of(house), rota, away), (before, kept, gone))
        whole = absent(house, away)
        left = rest(whole, rota, day)
        costs = ChangeCosts(left, [row[day:] for row in rota])
        good = good_rotas_behind(whole, rota, day)
        if isinstance(answer, Without):
            self.assertEqual(good, [])
            self.assertIs(answer.stands(left, costs), True)
            return answer
        self.assertIn(answer.rota, good)
        behind = [row[day:] for row in answer.rota]
        self.assertIs(Found(behind, answer.total, answer.paper).stands(left, costs), True)
        changes = [sum(x != y for x, y in zip("".join(other), "".join(rota))) for other in good]
        self.assertEqual(answer.total, min(changes))
        self.assertEqual(answer.total, sum(x != y for x, y in zip("".join(answer.rota), "".join(rota))))
        return answer

    def test_beside_every_rota(self):
        dice = random.Random(48)
        seen = []
        for house in some_houses(48, 400):
            good = good_rotas(house)
            if good:
                rota, day = dice.choice(good), dice.randrange(house.days)
                places = [(person.name, at) for person in house.persons for at in range(day, house.days)]
                away = [place for place in places if dice.random() < 0.3]
                dice.shuffle(away)
                answer = self.check(house, rota, day, away + away[:1])
                seen.append("none" if isinstance(answer, Without) else answer.total)
        self.assertGreater(seen.count("none"), 10)
        self.assertGreater(len([told for told in seen if told not in ("none", 0)]), 10)

    def test_nobody_away(self):
        for day in (2, 3):
            answer = self.check(trio(), GOOD, day, [])
            self.assertEqual((answer.rota, answer.total), (GOOD, 0))
        self.assertEqual(mend(trio(), GOOD, 0, []).rota, GOOD)

    def test_whoever_is_away_and_free_changes_nothing(self):
        answer = self.check(trio(), GOOD, 2, [("cy", 2), ("ann", 3), ("cy", 3), ("cy", 2)])
        self.assertEqual((answer.rota, answer.total), (GOOD, 0))

    def test_first_days_stay(self):
        answer = self.check(trio(rules=[("all", Never("MMM"))]), GOOD, 2, [("bob", 3)])
        self.assertEqual([row[:2] for row in answer.rota], ["MM", "--", "--"])
        self.assertEqual((answer.total, answer.rota[1]), (2, "--M-"))
        self.assertIsInstance(answer.paper, Book)

    def test_rules_look_back_on_the_first_days_and_the_pasts(self):
        house = trio(rules=[("all", Never("MMM")), ("cy", Never("M"))])
        self.assertEqual(self.check(house, GOOD, 2, [("bob", 3)]).rota, ["MM-M", "--M-", "----"])
        self.assertIsInstance(self.check(house, GOOD, 2, [("bob", 2)]), Without)
        # The day ahead of day 0 is the past's: bob had an M there, and has no other behind it.
        house = trio(rules=[("bob", Never("MM"))])
        self.assertEqual(self.check(house, ["MM--", "--M-", "---M"], 3, [("cy", 3)]).rota, ["MM-M", "--M-", "----"])
        self.assertEqual(mend(house, ["MM--", "--M-", "---M"], 0, [("ann", 0)]).rota[1][0], "-")

    def test_mosts_count_the_first_days(self):
        house = trio(mosts=(2, 2, 1))
        answer = self.check(house, GOOD, 2, [("bob", 2)])
        self.assertEqual((answer.rota, answer.total), (["MM--", "---M", "--M-"], 2))
        self.assertIsInstance(self.check(house, GOOD, 2, [("bob", 2), ("bob", 3)]), Without)

    def test_without(self):
        answer = mend(trio(), GOOD, 1, [(name, 3) for name in ("ann", "bob", "cy")])
        self.assertIsInstance(answer, Without)
        self.assertIn((2, "M"), answer.paper.places)

    def test_no_day(self):
        for day in (-1, 4, 5, 99):
            self.assertRaises(NoDay, mend, trio(), GOOD, day, [])

    def test_away_by_names_and_days(self):
        for away in ([("dee", 2)], [("", 2)], [("all", 2)], [("ann", 2), ("ANN", 2)]):
            self.assertRaises(NoName, mend, trio(), GOOD, 2, away)
        for away in ([("ann", 1)], [("ann", 0)], [("ann", 4)], [("ann", -1)], [("bob", 3), ("bob", 1)]):
            self.assertRaises(NoDay, mend, trio(), GOOD, 2, away)

    def test_a_rota_that_is_not_good(self):
        self.check_faulty((0, "need", "M", 0), mend, trio(), ["----", "--MM", "----"], 2, [])
        self.check_faulty((3, "need", "M", 0), mend, trio(), ["MM--", "--M-", "----"], 2, [])
        house = trio(leave=[("ann", 1)])
        self.check_faulty((1, "leave", "ann", "M"), mend, house, GOOD, 2, [("bob", 3)])

    def test_the_order_of_the_refusals(self):
        bad = ["----", "--MM", "----"]
        self.assertRaises(NoDay, mend, trio(), bad, 4, [("dee", 9)])
        self.assertRaises(NoName, mend, trio(), bad, 2, [("dee", 9), ("ann", 0)])
        self.assertRaises(NoDay, mend, trio(), bad, 2, [("ann", 0), ("dee", 9)])
        self.assertRaises(NoName, mend, trio(), bad, 2, [("ann", 3), ("dee", 3)])
        self.assertRaises(NoDay, mend, trio(), bad, 2, [("ann", 3), ("ann", 4)])
        self.check_faulty((0, "need", "M", 0), mend, trio(), bad, 2, [("ann", 3)])

    def test_too_wide_goes_behind(self):
        persons = [Person(name, "AB", 14, 0, "") for name in NAMES[:6]]
        needs = [(0, "A", 1, 1), (0, "B", 0, 1), (1, "A", 1, 1)]
        house = House(2, "AB", needs, persons, [], [], [("all", Never("Z"))], [])
        rota = ["AA"] + ["--"] * 5
        self.assertRaises(TooWide, mend, house, rota, 0, [])
        self.assertEqual(mend(house, rota, 1, [("ann", 1)]).total, 2)
        self.assertEqual(mend(house, rota, 0, [("ann", 0)]).total, 2)
        self.assertRaises(NoDay, mend, house, rota, 2, [])
        self.assertRaises(NoName, mend, house, rota, 0, [("x", 0)])
        self.check_faulty((0, "need", "A", 0), mend, house, ["-A"] + ["--"] * 5, 0, [])

    def test_the_rota_told_is_the_askers_own(self):
        house, rota = trio(), list(GOOD)
        answer = mend(house, rota, 1, [("ann", 1)])
        told = list(answer.rota)
        answer.rota.clear()
        self.assertEqual((rota, mend(house, rota, 1, [("ann", 1)]).rota), (GOOD, told))
        rota.clear()
        self.assertEqual(mend(house, GOOD, 1, [("ann", 1)]).rota, told)

    def test_without_persons(self):
        house = House(2, "M", [(1, "M", 0, 1)], [], [], [], [], [])
        answer = mend(house, [], 1, [])
        self.assertEqual((answer.rota, answer.total), ([], 0))
        self.assertRaises(NoName, mend, house, [], 1, [("ann", 1)])


class Swapped(Refusals):
    def test_marks_are_exchanged(self):
        for name, other, day, expected in (
            ("ann", "bob", 0, ["-M--", "M-MM", "----"]), ("bob", "ann", 0, ["-M--", "M-MM", "----"]),
            ("cy", "bob", 3, ["MM--", "--M-", "---M"]), ("ann", "cy", 2, GOOD),
        ):
            self.assertEqual(swapped(trio(), GOOD, name, other, day), expected)

    def test_whoever_is_swapped_with_themselves(self):
        for day in range(4):
            self.assertEqual(swapped(trio(), GOOD, "bob", "bob", day), GOOD)
        self.check_faulty((0, "need", "M", 0), swapped, trio(), ["----", "--MM", "----"], "ann", "ann", 3)

    def test_a_new_rota_that_is_not_good(self):
        house = trio(rules=[("bob", Never("MMM"))], leave=[("cy", 3)])
        bound = trio(rules=[("bob", Never("MM"))])
        self.check_faulty((2, "rule", "bob", 0), swapped, bound, ["MM--", "--M-", "---M"], "ann", "bob", 1)
        self.check_faulty((3, "leave", "cy", "M"), swapped, house, GOOD, "bob", "cy", 3)
        self.assertEqual(swapped(house, GOOD, "ann", "bob", 0), ["-M--", "M-MM", "----"])

    def test_a_rota_that_only_becomes_good(self):
        house = trio(leave=[("ann", 1)])
        self.assertEqual(faults(house, GOOD), [(1, "leave", "ann", "M")])
        self.assertEqual(swapped(house, GOOD, "ann", "bob", 1), ["M---", "-MMM", "----"])

    def test_refusals_and_their_order(self):
        bad = ["----", "--MM", "----"]
        for rota in (GOOD, bad):
            for name, other, day in (("dee", "ann", 0), ("ann", "dee", 0), ("", "ann", 9), ("ann", "all", 9)):
                self.assertRaises(NoName, swapped, trio(), rota, name, other, day)
            for day in (-1, 4, 99):
                self.assertRaises(NoDay, swapped, trio(), rota, "ann", "bob", day)
        self.check_faulty((0, "need", "M", 0), swapped, trio(), bad, "ann", "bob", 2)

    def test_a_new_list_and_nothing_changed(self):
        house, rota = trio(), list(GOOD)
        before = fields_of(house)
        for name, other in (("ann", "bob"), ("ann", "ann")):
            told = swapped(house, rota, name, other, 0)
            self.assertIs(type(told), list)
            told.clear()
            self.assertEqual((rota, fields_of(house)), (GOOD, before))

    def test_beside_every_swap(self):
        dice = random.Random(49)
        done = 0
        for house in some_houses(49, 120):
            rota = dice.choice(good_rotas(house) or [some_rota(dice, house)])
            names, day = [dice.choice(house.persons).name for turn in (0, 1)], dice.randrange(house.days)
            first, second = [house.place_of(name) for name in names]
            marks = [list(row) for row in rota]
            marks[first][day], marks[second][day] = marks[second][day], marks[first][day]
            expected = ["".join(row) for row in marks]
            wrong = faults(house, expected)
            if wrong:
                self.check_faulty(wrong[0], swapped, house, rota, names[0], names[1], day)
            else:
                self.assertEqual(swapped(house, rota, names[0], names[1], day), expected)
                done += 1
        self.assertGreater(done, 20)


class Onward(Refusals):
    def test_the_house_of_as_many_next_days(self):
        rules, pairs = [("all", Never("MMM"))], [("apart", "ann", "cy")]
        house = trio(rules, [("cy", 0)], pairs, [("ann", 0, "M")])
        told = onward(house, GOOD)
        persons = [
            ("ann", "MN", 4, 5, "N-MM--"), ("bob", "MN", 4, 2, "M--MM"), ("cy", "M", 4, BIG, "----"),
        ]
        expected = fields_of(house)
        self.assertEqual(fields_of(told), expected[:3] + (persons, [], []) + expected[6:])

    def test_twice_and_more(self):
        house = trio()
        for turn in range(1, 6):
            house = onward(house, GOOD)
            persons = [(person.carried, person.most) for person in house.persons]
            self.assertEqual(persons, [(3 + 2 * turn, 4), (2 * turn, 4), (BIG, 4)])
        self.assertEqual([person.past for person in house.persons], ["--MM--", "MM--MM", "------"])
        house = onward(house, ["----", "----", "MMMM"])
        self.assertEqual(house.persons[2].carried, BIG + 4)
        self.assertEqual((house.leave, house.wishes), ([], []))

    def test_rules_reach_back(self):
        house = onward(trio(rules=[("bob", Never("MMM"))]), GOOD)
        self.assertEqual(faults(house, ["----", "M-MM", "-M--"]), [(0, "rule", "bob", 0)])

    def test_a_made_rota_and_on(self):
        persons = [Person("ann", "M", 4, 9, ""), Person("bob", "M", 4, 0, "M")]
        house = House(4, "M", [(day, "M", 1, 1) for day in range(4)], persons, [], [], [("all", Never("MMM"))], [])
        for turn in range(5):
            answer = make(house)
            self.assertIs(answer.stands(house, EvenCosts(house)), True)
            house = onward(house, answer.rota)
        self.assertEqual(sum(person.carried for person in house.persons), 9 + 20)

    def test_a_rota_that_is_not_good(self):
        self.check_faulty((0, "need", "M", 0), onward, trio(), ["----", "--MM", "----"])
        house = trio(rules=[("ann", Never("MM")), ("ann", Never("M"))])
        self.check_faulty((0, "rule", "ann", 1), onward, house, GOOD)

    def test_nothing_handed_in_is_changed_or_shared(self):
        house, rota = trio(rules=[("all", Never("MMM"))], leave=[("cy", 0)]), list(GOOD)
        before, told = fields_of(house), onward(house, rota)
        for kept in (told.needs, told.persons, told.leave, told.wishes, told.rules, told.pairs):
            kept.append("more")
        self.assertEqual((fields_of(house), rota), (before, GOOD))

    def test_without_persons(self):
        house = House(2, "M", [(1, "M", 0, 1)], [], [], [], [], [])
        self.assertEqual(shown(onward(house, [])), shown(house))
        self.check_faulty((1, "need", "M", 0), onward, House(2, "M", [(1, "M", 1, 1)], [], [], [], [], []), [])


if __name__ == "__main__":
    unittest.main()
