"""Points 23 to 26: duties, loads, what lies over a level, wishes not met, faults and their order."""

import itertools
import unittest

from rotafair.houses import House, Person
from rotafair.looks import counts, faults, loads, over, unmet
from rotafair.rules import Both, Least, Most, Never, Not, bad_days

WORDS = ("skill", "leave", "need", "most", "rule", "pair")
BIG = 10 ** 40 - 1


def free(kinds, days, many=8):
    """Needs that ask for nobody and let everybody come."""
    return [(day, kind, 0, many) for day in range(days) for kind in kinds]


def trio(needs=None, leave=(), wishes=(), rules=(), pairs=()):
    persons = [Person("ann", "MN", 14, 5, ""), Person("bob", "NM", 14, 0, ""), Person("cy", "MN", 14, 7, "")]
    needs = free("MN", 3) if needs is None else needs
    return House(3, "MN", needs, persons, list(leave), list(wishes), list(rules), list(pairs))


def faults_by_words(house, rota):
    """Points 25 and 26, word by word, sorted at the end."""
    found = []
    places = {person.name: p for p, person in enumerate(house.persons)}
    for day in range(house.days):
        for p, person in enumerate(house.persons):
            mark = rota[p][day]
            duties = sum(one in house.kinds for one in rota[p][:day + 1])
            if mark in house.kinds:
                if mark not in person.skills:
                    found.append(((day, 0, p, 0), (day, "skill", person.name, mark)))
                if house.leave.count((person.name, day)) > 0:
                    found.append(((day, 1, p, 0), (day, "leave", person.name, mark)))
                if duties > person.most:
                    found.append(((day, 3, p, 0), (day, "most", person.name, duties)))
            for number, (name, rule) in enumerate(house.rules):
                if name in ("all", person.name) and day in bad_days(rule, person.past, rota[p]):
                    found.append(((day, 4, p, number), (day, "rule", person.name, number)))
        for place, kind in enumerate(house.kinds):
            many = [row[day] for row in rota].count(kind)
            least, most = house.need(day, kind)
            if not least <= many <= most:
                found.append(((day, 2, place, 0), (day, "need", kind, many)))
        for number, (word, name, other) in enumerate(house.pairs):
            one, two = rota[places[name]][day], rota[places[other]][day]
            if one != "-" and (one == two) == (word == "apart"):
                found.append(((day, 5, number, 0), (day, "pair", name, number)))
    return [fault for key, fault in sorted(found)]


class CountsAndLoads(unittest.TestCase):
    ROTA = ["M-N", "---", "NNM"]

    def test_counts(self):
        self.assertEqual(counts(trio(), self.ROTA), [2, 0, 3])
        self.assertEqual(counts(trio(), ["---"] * 3), [0, 0, 0])

    def test_loads(self):
        self.assertEqual(loads(trio(), self.ROTA), [7, 0, 10])
        house = House(1, "M", free("M", 1), [Person("ann", "M", 1, BIG, "MMM")], [], [], [], [])
        self.assertEqual(loads(house, ["M"]), [10 ** 40])
        self.assertEqual(counts(house, ["M"]), [1])

    def test_faults_or_not_they_are_counted(self):
        house = trio(needs=[], leave=[("ann", 0)])
        self.assertEqual(counts(house, self.ROTA), [2, 0, 3])
        self.assertEqual(loads(house, self.ROTA), [7, 0, 10])

    def test_a_past_does_not_count(self):
        house = House(2, "M", [], [Person("ann", "M", 1, 4, "MMMMMM")], [], [], [], [])
        self.assertEqual((counts(house, ["-M"]), loads(house, ["-M"])), ([1], [5]))

    def test_over(self):
        house = trio()
        self.assertEqual(loads(house, self.ROTA), [7, 0, 10])
        for level in range(-4, 14):
            self.assertEqual(over(house, self.ROTA, level), sum(max(0, load - level) for load in (7, 0, 10)), level)
        self.assertEqual([over(house, self.ROTA, level) for level in (6, 7, 8, 9, 10, 11)], [5, 3, 2, 1, 0, 0])

    def test_levels_below_nought_and_beyond_all_loads(self):
        self.assertEqual(over(trio(), self.ROTA, -1), 20)
        self.assertEqual(over(trio(), self.ROTA, -BIG), 17 + 3 * BIG)
        self.assertEqual(over(trio(), self.ROTA, BIG), 0)
        house = House(1, "M", [], [Person("ann", "M", 1, BIG, "")], [], [], [], [])
        self.assertEqual(over(house, ["M"], BIG), 1)

    def test_whole_numbers_and_own_lists(self):
        house, rota = trio(wishes=[("ann", 0, "N")]), list(self.ROTA)
        for told in (counts, loads):
            first = told(house, rota)
            self.assertIs(type(first), list)
            self.assertEqual({type(number) for number in first}, {int})
            expected = list(first)
            first.clear()
            self.assertEqual(told(house, rota), expected)
        for number in (over(house, rota, 3), over(house, rota, 99), unmet(house, rota), unmet(trio(), rota)):
            self.assertIs(type(number), int)
        self.assertEqual(rota, self.ROTA)

    def test_without_persons(self):
        house = House(2, "M", [(1, "M", 1, 1)], [], [], [], [("all", Never("M"))], [])
        self.assertEqual((counts(house, []), loads(house, [])), ([], []))
        self.assertEqual((over(house, [], -3), unmet(house, [])), (0, 0))
        self.assertEqual(faults(house, []), [(1, "need", "M", 0)])
        self.assertEqual(faults(House(2, "M", [], [], [], [], [], []), []), [])


class Unmet(unittest.TestCase):
    ROTA = ["M-N", "---", "NNM"]

    def test_met_and_not_met(self):
        for name, day, marks, expected in (
            ("ann", 0, "M", 0), ("ann", 0, "N", 1), ("ann", 0, "-", 1), ("ann", 0, "NM", 0), ("ann", 0, "N-", 1),
            ("ann", 1, "-", 0), ("ann", 1, "MN", 1), ("ann", 1, "MN-", 0), ("bob", 2, "-M", 0), ("cy", 2, "N", 1),
        ):
            self.assertEqual(unmet(trio(wishes=[(name, day, marks)]), self.ROTA), expected, (name, day, marks))

    def test_without_wishes(self):
        self.assertEqual(unmet(trio(), self.ROTA), 0)

    def test_each_wish_counts(self):
        wishes = [("ann", 0, "N"), ("bob", 1, "M"), ("cy", 1, "N"), ("ann", 0, "-"), ("ann", 0, "M")]
        self.assertEqual(unmet(trio(wishes=wishes), self.ROTA), 3)

    def test_a_wish_told_twice_counts_twice(self):
        self.assertEqual(unmet(trio(wishes=[("ann", 0, "N")] * 2), self.ROTA), 2)
        self.assertEqual(unmet(trio(wishes=[("ann", 0, "N"), ("ann", 0, "M"), ("ann", 0, "N")]), self.ROTA), 2)

    def test_a_wish_not_met_is_no_fault(self):
        self.assertEqual(faults(trio(wishes=[("ann", 0, "N")]), self.ROTA), [])


class EachFaultAlone(unittest.TestCase):
    def test_none(self):
        self.assertEqual(faults(trio(), ["MN-", "---", "NNN"]), [])

    def test_skill(self):
        persons = [Person("ann", "M", 14, 0, ""), Person("bob", "", 14, 0, ""), Person("cy", "NM", 14, 0, "")]
        house = House(2, "MN", free("MN", 2), persons, [], [], [], [])
        self.assertEqual(faults(house, ["M-", "--", "NM"]), [])
        self.assertEqual(faults(house, ["MN", "--", "NM"]), [(1, "skill", "ann", "N")])
        self.assertEqual(
            faults(house, ["N-", "MN", "NM"]),
            [(0, "skill", "ann", "N"), (0, "skill", "bob", "M"), (1, "skill", "bob", "N")],
        )

    def test_leave(self):
        house = trio(leave=[("bob", 1), ("ann", 2)])
        self.assertEqual(faults(house, ["MN-", "M-N", "NNN"]), [])
        self.assertEqual(faults(house, ["MNM", "MNN", "NNN"]), [(1, "leave", "bob", "N"), (2, "leave", "ann", "M")])

    def test_leave_told_twice_makes_one_fault(self):
        house = trio(leave=[("bob", 1), ("ann", 1), ("bob", 1)])
        self.assertEqual(faults(house, ["---", "-M-", "---"]), [(1, "leave", "bob", "M")])

    def test_need(self):
        house = trio(needs=[(0, "M", 1, 2), (0, "N", 0, 1), (1, "N", 2, 2), (2, "M", 0, 0)])
        self.assertEqual(faults(house, ["MN-", "MN-", "N--"]), [])
        self.assertEqual(faults(house, ["-N-", "-N-", "N--"]), [(0, "need", "M", 0)])
        self.assertEqual(faults(house, ["MN-", "MN-", "M--"]), [(0, "need", "M", 3)])
        self.assertEqual(faults(house, ["MN-", "NN-", "N--"]), [(0, "need", "N", 2)])
        self.assertEqual(faults(house, ["M--", "MN-", "N--"]), [(1, "need", "N", 1)])
        self.assertEqual(faults(house, ["MN-", "MN-", "NN-"]), [(1, "need", "N", 3)])
        self.assertEqual(faults(house, ["MNM", "MN-", "N--"]), [(2, "need", "M", 1)])

    def test_no_need_lets_nobody_come(self):
        house = trio(needs=[])
        self.assertEqual(faults(house, ["---", "---", "---"]), [])
        self.assertEqual(faults(house, ["-M-", "-M-", "--N"]), [(1, "need", "M", 2), (2, "need", "N", 1)])

    def test_most(self):
        persons = [Person("ann", "MN", 1, 0, "MMMMMM"), Person("bob", "MN", 0, 9, ""), Person("cy", "MN", 3, 0, "")]
        house = House(4, "MN", free("MN", 4), persons, [], [], [], [])
        self.assertEqual(faults(house, ["--M-", "----", "MM-N"]), [])
        self.assertEqual(faults(house, ["M-M-", "----", "MM-N"]), [(2, "most", "ann", 2)])
        self.assertEqual(
            faults(house, ["MM-N", "--N-", "MMNN"]),
            [(1, "most", "ann", 2), (2, "most", "bob", 1), (3, "most", "ann", 3), (3, "most", "cy", 4)],
        )

    def test_rule(self):
        house = trio(rules=[("ann", Never("NN")), ("all", Most(2, "#", 3)), ("bob", Never("M"))])
        self.assertEqual(faults(house, ["N-N", "NN-", "-NN"]), [])
        self.assertEqual(faults(house, ["NN-", "NN-", "-NN"]), [(1, "rule", "ann", 0)])
        self.assertEqual(faults(house, ["N-N", "-M-", "MMM"]), [(1, "rule", "bob", 2), (2, "rule", "cy", 1)])
        self.assertEqual(faults(house, ["MNN", "---", "---"]), [(2, "rule", "ann", 0), (2, "rule", "ann", 1)])

    def test_rules_on_free_days(self):
        house = trio(rules=[("cy", Least(1, "#", 2)), ("cy", Not(Never("M-")))])
        expected = [(0, "rule", "cy", 1), (2, "rule", "cy", 0), (2, "rule", "cy", 1)]
        self.assertEqual(faults(house, ["---", "---", "M--"]), expected)

    def test_a_past_makes_a_bad_day(self):
        persons = [Person("ann", "MN", 14, 0, "-N"), Person("bob", "MN", 14, 0, "N-"), Person("cy", "MN", 14, 0, "NN")]
        house = House(2, "MN", free("MN", 2), persons, [], [], [("all", Never("NN"))], [])
        self.assertEqual(faults(house, ["-N", "N-", "MN"]), [])
        expected = [(0, "rule", "ann", 0), (0, "rule", "cy", 0), (1, "rule", "cy", 0)]
        self.assertEqual(faults(house, ["N-", "N-", "NN"]), expected)
        house = House(2, "MN", free("MN", 2), persons, [], [], [("all", Never("N??"))], [])
        expected = [(0, "rule", "bob", 0), (0, "rule", "cy", 0), (1, "rule", "ann", 0), (1, "rule", "cy", 0)]
        self.assertEqual(faults(house, ["--", "--", "--"]), expected)

    def test_bad_days_of_a_past_are_no_faults(self):
        persons = [Person("ann", "MN", 14, 0, "NNNNNN")]
        house = House(1, "MN", free("MN", 1), persons, [], [], [("all", Never("NN"))], [])
        self.assertEqual(faults(house, ["-"]), [])

    def test_apart(self):
        house = trio(pairs=[("apart", "bob", "ann")])
        for one, other in itertools.product("MN-", repeat=2):
            expected = [(1, "pair", "bob", 0)] if (one, other) in (("M", "M"), ("N", "N")) else []
            self.assertEqual(faults(house, [f"-{other}-", f"-{one}-", "-M-"]), expected, (one, other))
            self.assertEqual(faults(house, [f"-{one}-", f"-{other}-", "-M-"]), expected, (one, other))

    def test_with(self):
        house = trio(pairs=[("with", "bob", "ann")])
        for one, other in itertools.product("MN-", repeat=2):
            broken = (one, other) in (("M", "N"), ("M", "-"), ("N", "M"), ("N", "-"))
            expected = [(1, "pair", "bob", 0)] if broken else []
            self.assertEqual(faults(house, [f"-{other}-", f"-{one}-", "-M-"]), expected, (one, other))

    def test_pairs_told_twice(self):
        house = trio(pairs=[("apart", "ann", "bob"), ("with", "ann", "cy"), ("apart", "ann", "bob")])
        self.assertEqual(
            faults(house, ["M--", "M--", "---"]),
            [(0, "pair", "ann", 0), (0, "pair", "ann", 1), (0, "pair", "ann", 2)],
        )


class SeveralFaults(unittest.TestCase):
    def crowded(self):
        persons = [Person("zoe", "M", 0, 3, "NN"), Person("ann", "", 1, 0, ""), Person("moe", "NM", 2, 0, "M")]
        return House(
            3, "NM", [(0, "N", 3, 3), (0, "M", 1, 1), (2, "M", 0, 1)], persons,
            [("zoe", 0), ("zoe", 0), ("ann", 0), ("moe", 2)], [],
            [("ann", Never("N")), ("all", Never("?N")), ("zoe", Both(Never("N"), Never("M"))), ("all", Never("N"))],
            [("with", "zoe", "moe"), ("apart", "ann", "zoe")],
        )

    def test_several_at_one_mark(self):
        self.assertEqual(
            faults(self.crowded(), ["N--", "N--", "---"]),
            [
                (0, "skill", "zoe", "N"), (0, "skill", "ann", "N"),
                (0, "leave", "zoe", "N"), (0, "leave", "ann", "N"),
                (0, "need", "N", 2), (0, "need", "M", 0),
                (0, "most", "zoe", 1),
                (0, "rule", "zoe", 1), (0, "rule", "zoe", 2), (0, "rule", "zoe", 3),
                (0, "rule", "ann", 0), (0, "rule", "ann", 3),
                (0, "pair", "zoe", 0), (0, "pair", "ann", 1),
            ],
        )

    def test_days_go_first(self):
        told = faults(self.crowded(), ["NNN", "MNM", "-MM"])
        self.assertEqual([fault[0] for fault in told], sorted(fault[0] for fault in told))
        for day in range(3):
            words = [WORDS.index(fault[1]) for fault in told if fault[0] == day]
            self.assertEqual(words, sorted(words))
        self.assertEqual({fault[1] for fault in told}, set(WORDS))

    def test_every_rota_against_the_words_of_the_points(self):
        house = self.crowded()
        rows = ["".join(row) for row in itertools.product("NM-", repeat=3)]
        for rota in itertools.product(rows, rows[::2], rows[::3]):
            self.assertEqual(faults(house, list(rota)), faults_by_words(house, list(rota)), rota)

    def test_every_rota_of_two(self):
        persons = [Person("bob", "QM", 2, 0, "Q-"), Person("al", "M", 1, 0, "")]
        house = House(
            3, "QM", [(0, "Q", 1, 1), (0, "M", 0, 1), (1, "M", 1, 2), (2, "Q", 0, 1), (2, "M", 0, 2)], persons,
            [("al", 2)], [("bob", 0, "Q")],
            [("al", Never("M?M")), ("all", Least(1, "-", 3)), ("bob", Most(2, "Q", 4))],
            [("apart", "bob", "al"), ("with", "al", "bob")],
        )
        rows = ["".join(row) for row in itertools.product("QM-", repeat=3)]
        good = 0
        for rota in itertools.product(rows, repeat=2):
            told = faults(house, list(rota))
            self.assertEqual(told, faults_by_words(house, list(rota)), rota)
            good += told == []
        self.assertGreater(good, 0)


class ItsForm(unittest.TestCase):
    def test_kinds(self):
        house = SeveralFaults().crowded()
        told = faults(house, ["NNN", "MNM", "-MM"])
        self.assertIs(type(told), list)
        for fault in told:
            self.assertIs(type(fault), tuple)
            self.assertEqual([type(part) for part in fault[:3]], [int, str, str])
            self.assertIs(type(fault[3]), str if fault[1] in ("skill", "leave") else int)

    def test_the_rota_and_the_house_stay(self):
        house = SeveralFaults().crowded()
        lists = [list(one) for one in (house.needs, house.leave, house.rules, house.pairs)]
        rota = ["NNN", "MNM", "-MM"]
        first = faults(house, rota)
        expected = list(first)
        first.clear()
        self.assertEqual(faults(house, rota), expected)
        self.assertEqual(rota, ["NNN", "MNM", "-MM"])
        self.assertEqual([house.needs, house.leave, house.rules, house.pairs], lists)
        for told in (counts, loads, unmet):
            told(house, rota)
        over(house, rota, 1)
        self.assertEqual(rota, ["NNN", "MNM", "-MM"])


if __name__ == "__main__":
    unittest.main()
