"""Points 2, 17 to 20, 46, 47: persons, houses, what rests of a house, a house with some away."""

import itertools
import unittest

from rotafair.errors import NoDay, NoName, RotaError
from rotafair.houses import House, Person, absent, rest
from rotafair.looks import faults
from rotafair.rules import Least, Most, Never

NIGHTS, BUSY, CALM = Never("NN"), Most(2, "#", 5), Least(1, "-", 7)


def people():
    return [
        Person("ann", "NM", 3, 5, "N-"),
        Person("bob", "M", 14, 0, ""),
        Person("cy", "", 0, 10 ** 40 - 1, "NMN-MN"),
        Person("dee", "QNM", 4, 1, "-"),
    ]


def ward():
    return House(
        5, "MNQ",
        [(0, "M", 1, 2), (0, "N", 0, 0), (1, "M", 0, 1), (1, "N", 1, 1), (1, "Q", 0, 8), (4, "Q", 2, 2)],
        people(),
        [("ann", 1), ("dee", 4), ("ann", 1)],
        [("bob", 0, "M-"), ("ann", 4, "N"), ("bob", 0, "M-")],
        [("ann", NIGHTS), ("all", BUSY), ("bob", CALM), ("all", NIGHTS)],
        [("apart", "ann", "bob"), ("with", "bob", "dee")],
    )


def empty_house(days=3, kinds="MN"):
    return House(days, kinds, [], [], [], [], [], [])


def person_fields(person):
    return (person.name, person.skills, person.most, person.carried, person.past)


def house_fields(house):
    persons = [person_fields(person) for person in house.persons]
    lists = [list(field) for field in (house.leave, house.wishes, house.rules, house.pairs)]
    return (house.days, house.kinds, list(house.needs), persons, *lists)


def changed(fields, **others):
    names = ("days", "kinds", "needs", "persons", "leave", "wishes", "rules", "pairs")
    return tuple(others.get(name, value) for name, value in zip(names, fields))


class Fields(unittest.TestCase):
    def test_of_a_person(self):
        person = Person("ann", "NM", 3, 10 ** 40 - 1, "N-")
        self.assertEqual(person_fields(person), ("ann", "NM", 3, 10 ** 40 - 1, "N-"))
        person = Person(name="bob", skills="", most=0, carried=0, past="")
        self.assertEqual(person_fields(person), ("bob", "", 0, 0, ""))

    def test_of_a_house(self):
        persons = people()
        house = House(
            days=2, kinds="NM", needs=[(0, "N", 1, 1)], persons=persons, leave=[("ann", 0)],
            wishes=[("bob", 1, "-")], rules=[("all", NIGHTS)], pairs=[("apart", "ann", "bob")],
        )
        self.assertEqual((house.days, house.kinds, house.needs), (2, "NM", [(0, "N", 1, 1)]))
        self.assertEqual(house.persons, persons)
        self.assertEqual((house.leave, house.wishes), ([("ann", 0)], [("bob", 1, "-")]))
        self.assertEqual((house.rules, house.pairs), ([("all", NIGHTS)], [("apart", "ann", "bob")]))
        for field in (house.needs, house.persons, house.leave, house.wishes, house.rules, house.pairs):
            self.assertIs(type(field), list)


class Need(unittest.TestCase):
    def test_with_a_tuple(self):
        house = ward()
        for day, kind, least, most in house.needs:
            self.assertEqual(house.need(day, kind), (least, most))

    def test_without_a_tuple(self):
        house = ward()
        for day, kind in ((0, "Q"), (2, "M"), (2, "N"), (3, "Q"), (4, "M"), (4, "N")):
            self.assertEqual(house.need(day, kind), (0, 0))
        self.assertEqual(empty_house().need(0, "M"), (0, 0))

    def test_its_kind(self):
        house = ward()
        for day, kind in itertools.product(range(5), "MNQ"):
            need = house.need(day, kind)
            self.assertIs(type(need), tuple)
            self.assertEqual([type(number) for number in need], [int, int])


class May(unittest.TestCase):
    def test_skills_and_the_order_of_the_house(self):
        house = ward()
        self.assertEqual(house.may(3, 1), "MNQ")
        self.assertEqual(house.may(1, 1), "M")
        self.assertEqual(house.may(2, 1), "")
        turned = House(1, "QNM", [(0, "Q", 0, 1), (0, "N", 0, 1), (0, "M", 0, 1)], people(), [], [], [], [])
        self.assertEqual([turned.may(p, 0) for p in range(4)], ["NM", "M", "", "QNM"])

    def test_leave(self):
        house = ward()
        self.assertEqual(house.may(0, 0), "M")
        self.assertEqual(house.may(0, 1), "")
        self.assertEqual(house.may(3, 4), "")
        self.assertEqual(house.may(3, 1), "MNQ")

    def test_a_most_of_nought_and_no_need(self):
        house = ward()
        self.assertEqual(house.may(3, 0), "M")
        self.assertEqual([house.may(3, day) for day in (2, 3)], ["", ""])
        only = House(1, "MN", [(0, "M", 0, 0), (0, "N", 0, 1)], [Person("ann", "MN", 1, 0, "")], [], [], [], [])
        self.assertEqual(only.may(0, 0), "N")

    def test_the_own_most_is_not_asked(self):
        house = House(1, "M", [(0, "M", 0, 1)], [Person("ann", "M", 0, 0, "")], [], [], [("all", Never("M"))], [])
        self.assertEqual(house.may(0, 0), "M")

    def test_against_the_words_of_the_point(self):
        house = ward()
        for p, day in itertools.product(range(4), range(5)):
            expected = ""
            for kind in "MNQ":
                able = kind in house.persons[p].skills
                here = [leave for leave in house.leave if leave == (house.persons[p].name, day)] == []
                if able and here and house.need(day, kind)[1] >= 1:
                    expected += kind
            self.assertEqual(house.may(p, day), expected)


class PlaceOf(unittest.TestCase):
    def test_each_name(self):
        house = ward()
        self.assertEqual([house.place_of(name) for name in ("ann", "bob", "cy", "dee")], [0, 1, 2, 3])
        self.assertIs(type(house.place_of("bob")), int)

    def test_no_name(self):
        for name in ("all", "", "an", "annn", "ANN", "ann ", "eve", "apart"):
            with self.assertRaises(NoName, msg=name):
                ward().place_of(name)
        with self.assertRaises(NoName):
            empty_house().place_of("ann")
        with self.assertRaises(RotaError):
            empty_house().place_of("ann")


class RulesAndReach(unittest.TestCase):
    def test_rules_for(self):
        house = ward()
        self.assertEqual(house.rules_for(0), [(0, NIGHTS), (1, BUSY), (3, NIGHTS)])
        self.assertEqual(house.rules_for(1), [(1, BUSY), (2, CALM), (3, NIGHTS)])
        self.assertEqual(house.rules_for(2), [(1, BUSY), (3, NIGHTS)])
        for number, rule in house.rules_for(0):
            self.assertIs(type(number), int)
            self.assertIs(rule, house.rules[number][1])
        self.assertIs(type(house.rules_for(0)[0]), tuple)

    def test_rules_for_without_rules(self):
        house = House(1, "N", [], people(), [], [], [], [])
        self.assertEqual(house.rules_for(0), [])
        house = House(1, "N", [], people(), [], [], [("bob", NIGHTS)], [])
        self.assertEqual([house.rules_for(p) for p in range(4)], [[], [(0, NIGHTS)], [], []])

    def test_one_rule_twice(self):
        house = House(1, "N", [], people(), [], [], [("ann", NIGHTS), ("all", NIGHTS), ("ann", NIGHTS)], [])
        self.assertEqual(house.rules_for(0), [(0, NIGHTS), (1, NIGHTS), (2, NIGHTS)])

    def test_reach(self):
        house = ward()
        self.assertEqual([house.reach_of(p) for p in range(4)], [5, 7, 5, 5])
        house = House(1, "N", [], people(), [], [], [("bob", NIGHTS), ("bob", Never("N"))], [])
        self.assertEqual([house.reach_of(p) for p in range(4)], [1, 2, 1, 1])

    def test_reach_without_rules(self):
        house = House(1, "N", [], people(), [], [], [], [("apart", "ann", "bob")])
        self.assertEqual([house.reach_of(p) for p in range(4)], [1, 1, 1, 1])
        self.assertIs(type(house.reach_of(0)), int)

    def test_plain(self):
        for rules, pairs, expected in (
            ([], [], True),
            ([("all", NIGHTS)], [], False),
            ([], [("with", "ann", "bob")], False),
            ([("ann", NIGHTS)], [("apart", "ann", "bob")], False),
        ):
            house = House(2, "MN", [(0, "M", 0, 1)], people(), [("ann", 0)], [("ann", 0, "M")], rules, pairs)
            self.assertIs(house.plain(), expected)
        self.assertIs(empty_house().plain(), True)
        self.assertIs(House(1, "N", [], [], [], [], [("all", NIGHTS)], []).plain(), False)


class OwnLists(unittest.TestCase):
    def handed(self):
        whole = ward()
        return [whole.needs, whole.persons, whole.leave, whole.wishes, whole.rules, whole.pairs]

    def answers(self, house):
        many = range(len(house.persons))
        return (
            [house.need(day, kind) for day, kind in itertools.product(range(5), "MNQ")],
            [house.may(p, day) for p, day in itertools.product(many, range(5))],
            [house.rules_for(p) for p in many], [house.reach_of(p) for p in many], house.plain(),
            house.place_of("dee"), house_fields(house),
        )

    def test_lists_that_were_handed_in_are_changed_behind(self):
        for change in (list.clear, list.reverse, lambda handed: handed.append(handed[0])):
            lists = self.handed()
            house = House(5, "MNQ", *lists)
            before = self.answers(house)
            for handed in lists:
                change(handed)
            after = self.answers(house)
            self.assertEqual(after, before)
            self.assertEqual(after[:-1], self.answers(ward())[:-1])

    def test_lists_that_were_told_are_changed_behind(self):
        house = ward()
        house.rules_for(0).clear()
        self.assertEqual(house.rules_for(0), [(0, NIGHTS), (1, BUSY), (3, NIGHTS)])

    def test_nothing_that_is_handed_in_is_changed(self):
        lists = self.handed()
        copies = [list(handed) for handed in lists]
        house = House(5, "MNQ", *lists)
        self.answers(house)
        absent(house, [("ann", 0)]).leave.append(("ann", 0))
        later = rest(house, ["-----"] * 4, 2)
        for told in (later.needs, later.persons, later.leave, later.wishes, later.rules, later.pairs):
            told.clear()
        self.assertEqual(lists, copies)
        self.assertEqual(house_fields(house), house_fields(ward()))

    def test_a_list_of_an_own_for_each_house(self):
        house = ward()
        for other in (absent(house, []), rest(house, ["-----"] * 4, 0)):
            for name in ("needs", "persons", "leave", "wishes", "rules", "pairs"):
                self.assertIsNot(getattr(other, name), getattr(house, name))


class WithoutPersons(unittest.TestCase):
    def test_its_answers(self):
        house = empty_house(2, "Q")
        self.assertEqual((house.persons, house.plain(), house.need(1, "Q")), ([], True, (0, 0)))

    def test_rest_and_absent(self):
        house = House(3, "MN", [(1, "M", 0, 1), (2, "N", 1, 1)], [], [], [], [("all", NIGHTS)], [])
        self.assertEqual(
            house_fields(rest(house, [], 1)),
            (2, "MN", [(0, "M", 0, 1), (1, "N", 1, 1)], [], [], [], [("all", NIGHTS)], []),
        )
        self.assertEqual(house_fields(absent(house, [])), house_fields(house))
        with self.assertRaises(NoName):
            absent(house, [("ann", 0)])


class Rest(unittest.TestCase):
    ROTA = ["M-N-M", "-M--M", "-----", "QNMQN"]

    def test_at_day_nought(self):
        self.assertEqual(house_fields(rest(ward(), self.ROTA, 0)), house_fields(ward()))

    def test_in_the_middle(self):
        house = ward()
        self.assertEqual(
            house_fields(rest(house, self.ROTA, 1)),
            (
                4, "MNQ",
                [(0, "M", 0, 1), (0, "N", 1, 1), (0, "Q", 0, 8), (3, "Q", 2, 2)],
                [
                    ("ann", "NM", 2, 6, "N-M"), ("bob", "M", 14, 0, "-"),
                    ("cy", "", 0, 10 ** 40 - 1, "MN-MN-"), ("dee", "QNM", 3, 2, "-Q"),
                ],
                [("ann", 0), ("dee", 3), ("ann", 0)],
                [("ann", 3, "N")],
                house.rules, house.pairs,
            ),
        )

    def test_at_the_last_day(self):
        house = ward()
        later = rest(house, self.ROTA, 4)
        self.assertEqual((later.days, later.kinds), (1, "MNQ"))
        self.assertEqual(later.needs, [(0, "Q", 2, 2)])
        self.assertEqual((later.leave, later.wishes), ([("dee", 0)], [("ann", 0, "N")]))
        self.assertEqual(
            [person_fields(person) for person in later.persons],
            [
                ("ann", "NM", 1, 7, "N-M-N-"), ("bob", "M", 13, 1, "-M--"),
                ("cy", "", 0, 10 ** 40 - 1, "MN----"), ("dee", "QNM", 0, 5, "-QNMQ"),
            ],
        )
        self.assertEqual((later.rules, later.pairs), (house.rules, house.pairs))

    def test_pasts_are_cut_to_six_marks(self):
        row = "MNMNMNMN"
        for past in ("", "N", "-MN", "N-M-N-"):
            house = House(8, "MN", [], [Person("ann", "MN", 14, 0, past)], [], [], [], [])
            for day in range(8):
                self.assertEqual(rest(house, [row], day).persons[0].past, (past + row[:day])[-6:])

    def test_the_carried_burden_may_pass_its_bound(self):
        house = House(2, "M", [(0, "M", 0, 1)], [Person("ann", "M", 1, 10 ** 40 - 1, "")], [], [], [], [])
        self.assertEqual(person_fields(rest(house, ["M-"], 1).persons[0]), ("ann", "M", 0, 10 ** 40, "M"))

    def test_the_other_days_are_not_looked_at(self):
        first = rest(ward(), self.ROTA, 2)
        other = rest(ward(), [row[:2] + "ZZZ" for row in self.ROTA], 2)
        self.assertEqual(house_fields(first)[:3], house_fields(other)[:3])
        self.assertEqual(house_fields(first)[3], house_fields(other)[3])

    def test_nothing_handed_in_is_changed(self):
        house, rota = ward(), list(self.ROTA)
        rest(house, rota, 3)
        self.assertEqual(rota, self.ROTA)
        self.assertEqual(house_fields(house), house_fields(ward()))

    def test_good_rotas_of_the_rest_are_those_of_the_whole(self):
        persons = [Person("ann", "MN", 2, 3, "N"), Person("bob", "NM", 2, 0, "-M")]
        needs = [(0, "M", 0, 1), (0, "N", 0, 2), (1, "N", 1, 2), (2, "M", 0, 1), (2, "N", 0, 2)]
        rules = [("ann", NIGHTS), ("all", Least(1, "-", 3))]
        house = House(3, "MN", needs, persons, [("bob", 2)], [], rules, [("apart", "ann", "bob")])
        rows = ["".join(row) for row in itertools.product("MN-", repeat=3)]
        good = seen = 0
        for rota in itertools.product(rows, repeat=2):
            whole = faults(house, list(rota))
            for day in range(3):
                if [fault for fault in whole if fault[0] < day]:
                    continue
                later = faults(rest(house, list(rota), day), [row[day:] for row in rota])
                self.assertEqual([(fault[0] + day, fault[1], fault[2]) for fault in later],
                                 [fault[:3] for fault in whole])
                seen += 1
            good += whole == []
        self.assertGreater(good, 5)
        self.assertGreater(seen, 50)


class Absent(unittest.TestCase):
    def test_nobody(self):
        self.assertEqual(house_fields(absent(ward(), [])), house_fields(ward()))

    def test_several_are_put_behind_the_leave(self):
        house = ward()
        away = [("dee", 0), ("ann", 4), ("bob", 2)]
        expected = changed(house_fields(house), leave=[("ann", 1), ("dee", 4), ("ann", 1)] + away)
        self.assertEqual(house_fields(absent(house, away)), expected)
        self.assertEqual(house_fields(house), house_fields(ward()))
        self.assertEqual(away, [("dee", 0), ("ann", 4), ("bob", 2)])

    def test_one_told_twice(self):
        away = [("ann", 1), ("cy", 0), ("cy", 0)]
        told = absent(ward(), away)
        self.assertEqual(told.leave, [("ann", 1), ("dee", 4), ("ann", 1)] + away)
        self.assertEqual(absent(told, [("cy", 0)]).leave, told.leave + [("cy", 0)])

    def test_whoever_is_away_may_have_nothing(self):
        house = ward()
        self.assertEqual(house.may(3, 1), "MNQ")
        self.assertEqual(absent(house, [("dee", 1)]).may(3, 1), "")
        self.assertEqual(house.may(3, 1), "MNQ")

    def test_the_list_handed_in_is_changed_behind(self):
        away = [("cy", 0)]
        told = absent(ward(), away)
        away.append(("cy", 1))
        self.assertEqual(told.leave[3:], [("cy", 0)])

    def test_the_days(self):
        for day in range(5):
            self.assertEqual(absent(ward(), [("bob", day)]).leave[-1], ("bob", day))
        for day in (-1, 5, 6, 100, -5):
            with self.assertRaises(NoDay, msg=day):
                absent(ward(), [("bob", day)])

    def test_the_names(self):
        for name in ("all", "eve", "", "Ann", "."):
            with self.assertRaises(NoName, msg=name):
                absent(ward(), [(name, 0)])

    def test_the_name_goes_ahead_of_the_day(self):
        for away in ([("eve", 9)], [("eve", -1)], [("bob", 0), ("eve", 5)]):
            with self.assertRaises(NoName):
                absent(ward(), away)

    def test_they_are_asked_in_the_order_of_the_list(self):
        for away, refusal in (
            ([("bob", 5), ("eve", 0)], NoDay),
            ([("eve", 0), ("bob", 5)], NoName),
            ([("bob", 0), ("ann", 9), ("eve", 0)], NoDay),
            ([("bob", 0), ("eve", 0), ("ann", 9)], NoName),
        ):
            house = ward()
            with self.assertRaises(refusal):
                absent(house, away)
            self.assertEqual(house_fields(house), house_fields(ward()))


if __name__ == "__main__":
    unittest.main()
