"""Points 1 to 3, over the whole program, and the interface by its names and arguments."""

import importlib
import inspect
import random
import unittest

from rotafair.book import Book
from rotafair.columns import columns
from rotafair.costs import ChangeCosts, Costs, EvenCosts, LevelCosts, total_of
from rotafair.deeds import least_answer, make, mend, onward, swapped
from rotafair.desk import Desk
from rotafair.errors import RotaError, TooWide
from rotafair.houses import House, Person, absent, rest
from rotafair.looks import counts, faults, loads, over, unmet
from rotafair.papers import Found, Places, Prices, Without
from rotafair.plain import least_plain
from rotafair.rules import Least, Most, Never
from rotafair.texts import read_house, shown
from small_houses import BIG, NAMES, fields_of, good_rotas, some_costs, some_house

INTERFACE = {
    "rules": {
        "fits": "sign mark", "bad_days": "rule past row", "Rule": "", "Never": "word", "Most": "many marks days",
        "Least": "many marks days", "Both": "left right", "Either": "left right", "Not": "inner",
    },
    "rulewords": {"read_rule": "text"},
    "alike": {"alike": "rule other marks"},
    "houses": {
        "Person": "name skills most carried past", "rest": "house rota day", "absent": "house away",
        "House": "days kinds needs persons leave wishes rules pairs",
    },
    "texts": {"read_house": "text", "shown": "house"},
    "looks": {
        "counts": "house rota", "loads": "house rota", "over": "house rota level", "unmet": "house rota",
        "faults": "house rota",
    },
    "costs": {
        "Costs": "", "EvenCosts": "house", "ChangeCosts": "house rota", "LevelCosts": "house level",
        "total_of": "house costs rota",
    },
    "nets": {
        "Net": "many arcs", "settle": "net", "cost_of": "net flows", "floor_of": "net prices", "is_flow": "net flows",
        "is_priced": "net flows prices", "is_cut": "net nodes",
    },
    "papers": {
        "Paper": "", "Places": "places", "Prices": "persons needs", "Answer": "", "Found": "rota total paper",
        "Without": "paper",
    },
    "plain": {"least_plain": "house costs"},
    "columns": {"columns": "house day"},
    "book": {"Book": "pages", "least_by_book": "house costs"},
    "deeds": {
        "least_answer": "house costs", "make": "house", "mend": "house rota day away",
        "swapped": "house rota name other day", "onward": "house rota",
    },
    "desk": {"Desk": ""},
}
METHODS = {
    "rules": {"Never": {"reach": "", "bad": "marks", "text": ""}},
    "houses": {"House": {
        "need": "day kind", "may": "p day", "place_of": "name", "rules_for": "p", "reach_of": "p", "plain": "",
    }},
    "costs": {
        name: {"of_count": "p many", "of_mark": "p day mark"}
        for name in ("Costs", "EvenCosts", "ChangeCosts", "LevelCosts")
    },
    "papers": {
        "Paper": {"floor": "house costs"}, "Places": {"floor": "house costs"}, "Prices": {"floor": "house costs"},
        "Answer": {"stands": "house costs"}, "Found": {"stands": "house costs"}, "Without": {"stands": "house costs"},
    },
    "book": {"Book": {"floor": "house costs"}},
    "desk": {"Desk": {"say": "row"}},
}


def arguments(called):
    return [name for name in inspect.signature(called).parameters if name != "self"]


class Interface(unittest.TestCase):
    def test_names_and_arguments(self):
        for file, names in INTERFACE.items():
            module = importlib.import_module("rotafair." + file)
            for name, told in names.items():
                value = getattr(module, name)
                self.assertEqual(value.__module__, "rotafair." + file)
                made = value.__init__ if inspect.isclass(value) and told else value
                self.assertEqual(arguments(made), told.split(), name)

    def test_methods(self):
        for file, classes in METHODS.items():
            module = importlib.import_module("rotafair." + file)
            for kind, methods in classes.items():
                for name, told in methods.items():
                    self.assertEqual(arguments(getattr(getattr(module, kind), name)), told.split(), (kind, name))

    def test_fields_by_the_names_of_their_arguments(self):
        paper = Places([])
        for value, told in (
            (Found(["M"], 3, paper), {"rota": ["M"], "total": 3, "paper": paper}), (Without(paper), {"paper": paper}),
            (Places([(0, "M")]), {"places": [(0, "M")]}), (Prices([1], [2, 3]), {"persons": [1], "needs": [2, 3]}),
            (Book([[((), (), 0)], []]), {"pages": [[((), (), 0)], []]}),
        ):
            for name, expected in told.items():
                self.assertEqual(getattr(value, name), expected)

    def test_refusals(self):
        module = importlib.import_module("rotafair.errors")
        kinds = [value for value in vars(module).values() if inspect.isclass(value) and value != RotaError]
        self.assertEqual(len(kinds), 7)
        for kind in kinds:
            self.assertTrue(issubclass(kind, RotaError) and issubclass(kind, ValueError))
            self.assertEqual([other for other in kinds if issubclass(kind, other)], [kind])


def is_too_wide(house):
    """Points 39 and 42, by counting: without a cost, and without the program's own pages."""
    if house.plain():
        return False
    kept = [house.reach_of(p) - 1 for p in range(len(house.persons))]
    places = {tuple((one.past[max(0, len(one.past) - many):], 0) for one, many in zip(house.persons, kept))}
    for day in range(house.days):
        if not places:
            return False
        product = 1
        for p in range(len(house.persons)):
            product *= 1 + len(house.may(p, day))
        if product > 256:
            return True
        coming = set()
        for place in places:
            for column in columns(house, day):
                coming.add(place_behind(house, kept, place, column))
        places = coming - {None}
        if len(places) > 300:
            return True
    return False


def place_behind(house, kept, place, column):
    parts = []
    for p, mark in enumerate(column):
        marks, many = place[p][0] + mark, place[p][1] + (mark != "-")
        if many > house.persons[p].most or any(rule.bad(marks) for number, rule in house.rules_for(p)):
            return None
        parts.append((marks[max(0, len(marks) - kept[p]):], many))
    return tuple(parts)


class ThePromise(unittest.TestCase):
    RULES = (Never("MM"), Never("NM"), Most(2, "#", 3), Least(1, "-", 3), Never("Z"), Most(1, "N", 4))

    def some(self, dice, days, kinds, many):
        rules, pairs = [], []
        for number in range(dice.randint(0, 2)):
            rules.append((dice.choice(("all",) + NAMES[:many]), dice.choice(self.RULES)))
        if many > 1 and dice.random() < 0.3:
            pairs.append((dice.choice(("apart", "with")),) + tuple(dice.sample(NAMES[:many], 2)))
        return some_house(dice, days, kinds, many, rules, pairs)

    def test_every_answer_beside_every_rota(self):
        dice = random.Random(3)
        for turn in range(120):
            house = self.some(dice, *dice.choice(((2, "MN", 2), (3, "MN", 2), (3, "M", 3), (4, "MN", 1))))
            good = good_rotas(house)
            for costs in some_costs(dice, house):
                answer = least_answer(house, costs)
                self.assertIs(answer.stands(house, costs), True)
                if isinstance(answer, Found):
                    self.assertEqual(faults(house, answer.rota), [])
                    least = min(total_of(house, costs, rota) for rota in good)
                    self.assertEqual((answer.total, answer.paper.floor(house, costs)), (least, least))
                else:
                    self.assertIsInstance(answer, Without)
                    self.assertIsNone(answer.paper.floor(house, costs))
                    self.assertEqual(good, [])

    def test_too_wide_where_and_only_where_it_is_told(self):
        dice = random.Random(4)
        seen = []
        for turn in range(150):
            house = self.some(dice, dice.randint(2, 6), dice.choice(("M", "MN", "AMN")), dice.randint(2, 6))
            expected = is_too_wide(house)
            try:
                answer = make(house)
                self.assertIs(answer.stands(house, EvenCosts(house)), True)
                self.assertFalse(expected)
            except TooWide:
                self.assertTrue(expected)
            seen.append((expected, house.plain()))
        self.assertGreater(seen.count((True, False)), 10)
        self.assertGreater(seen.count((False, False)), 10)
        self.assertGreater(seen.count((False, True)), 10)

    def test_papers_of_one_house_held_against_another(self):
        dice = random.Random(5)
        for turn in range(80):
            one, other = [self.some(dice, 2, "MN", 2) for number in (0, 1)]
            good = good_rotas(other)
            for costs in some_costs(dice, other):
                told = least_answer(one, EvenCosts(one)).paper.floor(other, costs)
                if told is None:
                    self.assertEqual(good, [])
                for rota in good:
                    self.assertLessEqual(told, total_of(other, costs, rota))

    def test_the_most_even_rota_of_a_plain_house(self):
        dice = random.Random(6)
        for turn in range(60):
            house = some_house(dice, *dice.choice(((2, "MN", 3), (3, "M", 3), (3, "MN", 2))))
            good, answer = good_rotas(house), make(house)
            self.assertIs(isinstance(answer, Found), len(good) > 0)
            if good:
                levels = {load + step for rota in good for load in loads(house, rota) for step in (-1, 0, 1)}
                for level in sorted(levels | {-5, 2 * BIG}):
                    least = min(over(house, rota, level) for rota in good)
                    costs = LevelCosts(house, level)
                    self.assertEqual(over(house, answer.rota, level), least)
                    self.assertEqual(least_plain(house, costs).paper.floor(house, costs), least)

    def test_the_same_answer_every_time(self):
        dice = random.Random(7)
        for turn in range(20):
            house = self.some(dice, 3, "MN", 2)
            first, second = make(house), make(read_house(shown(house)))
            self.assertIs(type(first), type(second))
            if isinstance(first, Found):
                self.assertEqual((first.rota, first.total), (second.rota, second.total))


class ListsThatAreChangedBehind(unittest.TestCase):
    def lists(self):
        needs = [(0, "M", 0, 1), (1, "M", 1, 1), (1, "N", 0, 1)]
        persons = [Person("ann", "MN", 2, 1, "M"), Person("bob", "MN", 2, 0, "")]
        rules, pairs = [("all", Never("MM"))], [("apart", "ann", "bob")]
        return [needs, persons, [("bob", 0)], [("ann", 1, "N")], rules, pairs]

    def test_a_house_and_all_that_is_told_of_it(self):
        lists = self.lists()
        house = House(2, "MN", *lists)
        before = fields_of(house)
        costs = [EvenCosts(house), LevelCosts(house, 1)]
        told = [least_answer(house, one).total for one in costs]
        for part in lists:
            part.clear()
        self.assertEqual(fields_of(house), before)
        self.assertEqual([least_answer(house, one).total for one in costs], told)

    def test_told_lists(self):
        house = House(2, "MN", *self.lists())
        rota = make(house).rota
        asked = (
            lambda: columns(house, 1), lambda: counts(house, rota), lambda: loads(house, rota),
            lambda: faults(house, ["MM", "MM"]), lambda: house.rules_for(0), lambda: make(house).rota,
            lambda: make(house).paper.pages, lambda: make(house).paper.pages[1], lambda: onward(house, rota).needs,
            lambda: rest(house, rota, 1).rules, lambda: absent(house, []).leave, lambda: absent(house, []).pairs,
            lambda: swapped(house, rota, "ann", "ann", 0), lambda: mend(house, rota, 1, []).rota,
        )
        for ask in asked:
            first = ask()
            kept = list(first)
            first.append("more")
            first.reverse()
            self.assertEqual(ask(), kept)

    def test_lists_handed_to_deeds(self):
        house = House(2, "MN", *self.lists())
        rota, away = list(make(house).rota), [("bob", 1)]
        kept = list(rota)
        costs = ChangeCosts(house, rota)
        answer = mend(house, rota, 1, away)
        gone = absent(house, away)
        total, told = total_of(house, costs, kept), list(answer.rota)
        rota.clear()
        away.clear()
        self.assertEqual((total_of(house, costs, kept), answer.rota), (total, told))
        self.assertEqual(gone.leave, [("bob", 0), ("bob", 1)])

    def test_whole_numbers_that_are_no_truths(self):
        house = House(2, "MN", *self.lists())
        rota = make(house).rota
        numbers = [make(house).total, unmet(house, rota), over(house, rota, 0), total_of(house, Costs(), rota)]
        numbers += [make(house).paper.floor(house, EvenCosts(house)), mend(house, rota, 0, []).total]
        numbers += [person.carried for person in onward(house, rota).persons]
        for page in make(house).paper.pages:
            numbers += [number for entry in page for number in entry[1] + entry[2:]]
        self.assertEqual({type(number) for number in numbers}, {int})

    def test_a_desk_is_told_texts_alone(self):
        house = House(2, "MN", *self.lists())
        desk = Desk()
        self.assertEqual(desk.say("house\n" + shown(house)), "ok")
        total = make(house).total
        self.assertEqual(desk.say("make"), f"made {total}")


if __name__ == "__main__":
    unittest.main()
