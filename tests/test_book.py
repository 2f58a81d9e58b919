"""Points 40 to 44: entries, steps, pages, the floor of a book whatever it holds, the least answer by the book."""

import itertools
import random
import unittest

from rotafair.book import Book, least_by_book
from rotafair.columns import columns
from rotafair.costs import ChangeCosts, Costs, EvenCosts, LevelCosts, total_of
from rotafair.errors import TooWide
from rotafair.houses import House, Person
from rotafair.looks import faults
from rotafair.papers import Found, Paper, Without
from rotafair.rules import Both, Either, Least, Most, Never, Not
from small_houses import NAMES, fields_of, good_rotas, some_costs, some_house

RULES = (
    Never("MM"), Never("N#"), Most(1, "#", 2), Least(1, "-", 3), Most(2, "M", 5), Not(Never("M?")), Never("-"),
    Either(Never("MN"), Never("N")), Both(Most(1, "N", 3), Never("NM")), Least(1, "MN", 2), Never("Q"), Never("--#"),
)


def cut(marks, many):
    return marks[len(marks) - many:] if many < len(marks) else marks


def first_of(house):
    tails = tuple(cut(one.past, house.reach_of(p) - 1) for p, one in enumerate(house.persons))
    return (tails, (0,) * len(tails), 0)


def steps_by_words(house, costs, day, entry):
    """Point 41: each entry to which a column of the day comes from this one."""
    found = []
    for column in columns(house, day):
        tails, counts, cost, good = [], [], entry[2], True
        for p, mark in enumerate(column):
            marks = entry[0][p] + mark
            many = entry[1][p] + (mark != "-")
            good = good and not any(rule.bad(marks) for number, rule in house.rules_for(p))
            good = good and many <= house.persons[p].most
            tails.append(cut(marks, house.reach_of(p) - 1))
            counts.append(many)
            cost += costs.of_mark(p, day, mark)
        if good:
            found.append((tuple(tails), tuple(counts), cost))
    return found


def pages_by_words(house, costs, bound=300):
    """Point 42."""
    pages = [[first_of(house)]]
    while pages[-1] and len(pages) <= house.days:
        day = len(pages) - 1
        steps = [step for entry in pages[-1] for step in steps_by_words(house, costs, day, entry)]
        places = sorted({step[:2] for step in steps})
        page = [place + (min(step[2] for step in steps if step[:2] == place),) for place in places]
        if len(page) > bound:
            raise TooWide
        pages.append(page)
    return pages


def floor_by_words(house, costs, pages):
    """Point 43."""
    if not pages or not any(entry[:2] == first_of(house)[:2] and entry[2] <= 0 for entry in pages[0]):
        return 0
    for day in range(house.days + 1):
        if day >= len(pages):
            return 0
        if not pages[day]:
            return None
        if day == house.days:
            sums = []
            for tails, counts, cost in pages[day]:
                sums.append(cost + sum(costs.of_count(p, many) for p, many in enumerate(counts)))
            return min(sums)
        try:
            steps = [step for entry in pages[day] for step in steps_by_words(house, costs, day, entry)]
        except TooWide:
            return 0
        following = pages[day + 1] if day + 1 < len(pages) else []
        for step in steps:
            if not any(entry[:2] == step[:2] and entry[2] <= step[2] for entry in following):
                return 0


def some_bound_house(dice, days=2, kinds="MN", many=2):
    rules = []
    for number in range(dice.randint(0, 2) if many else 0):
        rules.append((dice.choice(("all",) + NAMES[:many]), dice.choice(RULES)))
    pairs = []
    for number in range(dice.choice((0, 0, 1)) if many > 1 else 0):
        pairs.append((dice.choice(("apart", "with")),) + tuple(dice.sample(NAMES[:many], 2)))
    return some_house(dice, days, kinds, many, rules, pairs)


def bound_houses(seed, turns):
    dice = random.Random(seed)
    sizes = ((2, "MN", 2), (3, "M", 2), (3, "MN", 2), (2, "MN", 3), (4, "MN", 1), (3, "M", 3), (2, "M", 0))
    return [some_bound_house(dice, *dice.choice(sizes)) for turn in range(turns)]


def one(days, rules, past="", most=14, needs=None, carried=0, wishes=(), skills="MN"):
    needs = [(day, kind, 0, 1) for day in range(days) for kind in "MN"] if needs is None else needs
    persons = [Person("ann", skills, most, carried, past)]
    return House(days, "MN", needs, persons, [], list(wishes), [("ann", rule) for rule in rules], [])


def wide(least=0, mosts=(8, 8, 8, 8), leave=(), limits=(14, 14, 14, 14), days=4):
    """A rule that finds nothing bad: so entries differ by counts alone."""
    persons = [Person(name, "M", limit, 0, "") for name, limit in zip(NAMES, limits)]
    needs = [(day, "M", least, most) for day, most in zip(range(days), mosts)]
    return House(days, "M", needs, persons, list(leave), [], [("all", Never("Z"))], [])


class Pages(unittest.TestCase):
    def pages(self, house, costs=None):
        return least_by_book(house, Costs() if costs is None else costs).paper.pages

    def test_page_nought(self):
        house = House(1, "MN", [], [Person("ann", "M", 3, 5, "MN-M"), Person("bob", "", 0, 0, "N")], [], [],
                      [("ann", Never("?MM")), ("ann", Never("N"))], [])
        self.assertEqual(self.pages(house)[0], [(("-M", ""), (0, 0), 0)])

    def test_tails_of_pasts(self):
        for past, reach, expected in (
            ("", 3, ""), ("M", 3, "M"), ("NM", 3, "NM"), ("-NM", 3, "NM"), ("-NM", 1, ""), ("-NMNM-", 7, "-NMNM-"),
            ("-NMNM-", 2, "-"),
        ):
            house = one(1, [Most(7, "#", reach)], past)
            self.assertEqual(self.pages(house)[0], [((expected,), (0,), 0)])

    def test_tails_grow_and_are_cut(self):
        house = one(3, [Never("MMM")], needs=[(day, "M", 1, 1) for day in (0, 2)])
        self.assertEqual(self.pages(house), [
            [(("",), (0,), 0)], [(("M",), (1,), 0)], [(("M-",), (1,), 0)], [(("-M",), (2,), 0)],
        ])

    def test_a_reach_of_one(self):
        house = one(2, [Never("N")], past="MM", needs=[(0, "M", 0, 1), (0, "N", 0, 1), (1, "M", 0, 1)])
        self.assertEqual(self.pages(house), [
            [(("",), (0,), 0)], [(("",), (0,), 0), (("",), (1,), 0)],
            [(("",), (0,), 0), (("",), (1,), 0), (("",), (2,), 0)],
        ])

    def test_each_person_has_a_reach_of_their_own(self):
        persons = [Person("ann", "M", 9, 0, "MMM"), Person("bob", "M", 9, 0, "MMM"), Person("cy", "M", 9, 0, "MMM")]
        house = House(1, "M", [], persons, [], [], [("bob", Never("MMM")), ("cy", Most(1, "N", 2))], [])
        self.assertEqual(self.pages(house)[0], [(("", "MM", "M"), (0, 0, 0), 0)])
        self.assertEqual(self.pages(house)[1], [(("", "M-", "-"), (0, 0, 0), 0)])

    def test_pasts_bind(self):
        house = one(2, [Never("NM")], past="N", needs=[(0, "M", 0, 1), (1, "M", 0, 1)])
        self.assertEqual(self.pages(house)[1], [(("-",), (0,), 0)])
        self.assertEqual(self.pages(house)[2], [(("-",), (0,), 0), (("M",), (1,), 0)])

    def test_mosts(self):
        house = one(3, [Never("Z")], most=1)
        self.assertEqual([entry[1] for entry in self.pages(house)[3]], [(0,), (1,)])
        house = one(3, [Never("Z")], most=0)
        self.assertEqual([entry[1] for entry in self.pages(house)[3]], [(0,)])

    def test_the_least_cost_of_several_steps(self):
        wishes = [("ann", 0, "M"), ("ann", 0, "M"), ("ann", 0, "M-"), ("ann", 1, "N")]
        house = one(2, [Never("Z")], wishes=wishes)
        pages = self.pages(house, EvenCosts(house))
        self.assertEqual(pages[1], [(("",), (0,), 2), (("",), (1,), 0)])
        self.assertEqual(pages[2], [(("",), (0,), 3), (("",), (1,), 1), (("",), (2,), 0)])

    def test_counts_cost_nothing_on_the_pages(self):
        house = one(2, [Never("Z")], carried=9)
        self.assertEqual({entry[2] for page in self.pages(house, EvenCosts(house)) for entry in page}, {0})

    def test_sorted_by_tails_then_counts(self):
        house = one(3, [Never("MM?")])
        for page in self.pages(house)[1:]:
            places = [entry[:2] for entry in page]
            self.assertEqual(places, sorted(set(places)))
        self.assertEqual(self.pages(house)[2][:4], [
            (("--",), (0,), 0), (("-M",), (1,), 0), (("-N",), (1,), 0), (("M-",), (1,), 0),
        ])

    def test_the_first_page_without_entries_is_the_last(self):
        house = one(4, [Never("MM")], needs=[(day, "M", 1, 1) for day in range(4)])
        answer = least_by_book(house, Costs())
        self.assertIsInstance(answer, Without)
        self.assertEqual([len(page) for page in answer.paper.pages], [1, 1, 0])

    def test_one_page_more_than_days(self):
        self.assertEqual(len(self.pages(one(5, [Never("MM")]))), 6)

    def test_by_words(self):
        dice = random.Random(42)
        for house in bound_houses(42, 150):
            for costs in some_costs(dice, house):
                pages = self.pages(house, costs)
                self.assertEqual(pages, pages_by_words(house, costs))
                for entry in [entry for page in pages for entry in page]:
                    self.assertEqual([type(part) for part in entry], [tuple, tuple, int])
                    self.assertLessEqual({type(number) for number in entry[1]}, {int})

    def test_just_300_entries_and_more(self):
        leave = [("ann", 0), ("ann", 2), ("bob", 1)]
        self.assertEqual([len(page) for page in self.pages(wide(leave=leave))][-1], 300)
        some = dict(mosts=(3, 2, 2, 2), limits=(4, 4, 3, 4))
        just = wide(leave=[("cy", 0), ("cy", 2)], **some)
        self.assertEqual(len(pages_by_words(just, Costs(), bound=400)[4]), 301)
        self.assertRaises(TooWide, least_by_book, just, Costs())
        self.assertRaises(TooWide, least_by_book, wide(leave=leave[1:]), EvenCosts(wide()))

    def test_too_many_entries_though_later_pages_have_few(self):
        house = wide(mosts=(8, 8, 8, 8, 0), days=5)
        last = House(5, "M", house.needs[:4] + [(4, "M", 8, 8)], house.persons, [], [], house.rules, [])
        for told in (house, last):
            self.assertRaises(TooWide, least_by_book, told, Costs())

    def test_columns_that_are_too_many(self):
        needs = [(0, "A", 1, 1), (1, "A", 0, 8), (1, "B", 0, 8)]
        persons = [Person(name, "AB", 14, 0, "") for name in NAMES[:6]]
        for rule, expected in ((Never("Z"), TooWide), (Never("?"), None)):
            house = House(2, "AB", needs, persons, [], [], [("all", rule)], [])
            self.assertRaises(TooWide, columns, house, 1)
            if expected:
                self.assertRaises(TooWide, least_by_book, house, Costs())
            else:
                answer = least_by_book(house, Costs())
                self.assertIsInstance(answer, Without)
                self.assertEqual([len(page) for page in answer.paper.pages], [1, 0])

    def test_columns_are_asked_ahead_of_the_page(self):
        persons = [Person(name, "AB", 0, 0, "") for name in NAMES[:6]]
        house = House(1, "AB", [(0, "A", 1, 1), (0, "B", 1, 1)], persons, [], [], [("all", Never("?"))], [])
        self.assertRaises(TooWide, least_by_book, house, Costs())


class LeastByBook(unittest.TestCase):
    def check(self, house, costs, good):
        before = fields_of(house)
        answer = least_by_book(house, costs)
        self.assertEqual(fields_of(house), before)
        self.assertIs(answer.stands(house, costs), True)
        self.assertIsInstance(answer.paper, Book)
        self.assertIsInstance(answer.paper, Paper)
        self.assertIs(isinstance(answer, Without), answer.paper.pages[-1] == [])
        if isinstance(answer, Found):
            self.assertEqual(faults(house, answer.rota), [])
            self.assertIn(answer.rota, good)
            self.assertEqual(answer.total, min(total_of(house, costs, rota) for rota in good))
            self.assertIs(type(answer.total), int)
        else:
            self.assertEqual(good, [])
        return answer

    def test_beside_every_rota(self):
        dice = random.Random(44)
        found = 0
        for house in bound_houses(44, 160):
            good = good_rotas(house)
            found += len(good) > 0
            for costs in some_costs(dice, house):
                self.check(house, costs, good)
        self.assertGreater(found, 40)
        self.assertLess(found, 140)

    def test_by_numbers(self):
        persons = [Person("ann", "MN", 4, 2, "N"), Person("bob", "MN", 4, 0, "")]
        needs = [(day, "M", 1, 1) for day in range(3)]
        house = House(3, "MN", needs, persons, [], [], [("all", Never("MM"))], [])
        answer = self.check(house, EvenCosts(house), good_rotas(house))
        self.assertEqual((answer.rota, answer.total), (["-M-", "M-M"], 9 + 4))
        house = House(3, "MN", needs, persons, [], [], [("ann", Never("M"))], [("apart", "ann", "bob")])
        answer = self.check(house, EvenCosts(house), good_rotas(house))
        self.assertEqual((answer.rota, answer.total), (["---", "MMM"], 4 + 9))

    def test_without_persons(self):
        house = House(2, "M", [(1, "M", 0, 1)], [], [], [], [("all", Never("M"))], [])
        answer = self.check(house, EvenCosts(house), [[]])
        self.assertEqual((answer.rota, answer.total), ([], 0))
        self.assertEqual(answer.paper.pages, [[((), (), 0)]] * 3)
        house = House(2, "M", [(1, "M", 1, 1)], [], [], [], [("all", Never("M"))], [])
        answer = self.check(house, EvenCosts(house), [])
        self.assertEqual(answer.paper.pages, [[((), (), 0)]] * 2 + [[]])

    def test_told_lists_that_are_changed(self):
        house = one(2, [Never("MM")], needs=[(0, "M", 1, 1)])
        first = least_by_book(house, EvenCosts(house))
        pages = [list(page) for page in first.paper.pages]
        first.rota.clear()
        for page in first.paper.pages:
            page.clear()
        second = self.check(house, EvenCosts(house), good_rotas(house))
        self.assertEqual((second.rota, second.paper.pages), (["M-"], pages))


def some_changes(dice, house, pages):
    """Books that were changed somewhere, each in a way of its own."""
    told = []
    for turn in range(8):
        changed = [list(page) for page in pages]
        number = dice.randrange(len(changed))
        page = changed[number]
        way = dice.randrange(10)
        if way < 6 and page:
            place = dice.randrange(len(page))
            tails, counts, cost = page[place]
            if way < 2:
                page[place] = (tails, counts, cost + (-1, 1)[way])
            elif way == 2:
                page.pop(place)
            elif way == 3:
                page.append((tails, counts, cost + dice.randint(-1, 1)))
            elif way == 4:
                page[place] = (tuple("M" + tail for tail in tails), counts, cost)
            else:
                page.insert(place, (tuple(tail[1:] for tail in tails), tuple(dice.randint(0, 3) for p in counts), cost))
        elif way == 6:
            page.clear()
        elif way == 7:
            changed.pop(number)
        elif way == 8:
            changed.insert(dice.choice((number, len(changed))), list(dice.choice(pages)))
        else:
            dice.shuffle(page)
        told.append(changed)
    return told


class Floors(unittest.TestCase):
    def test_of_the_cost_for_which_it_was_made_and_of_others(self):
        dice = random.Random(46)
        for house in bound_houses(46, 60):
            good = good_rotas(house)
            every = some_costs(dice, house)
            for costs in every:
                answer = least_by_book(house, costs)
                for other in every:
                    told = answer.paper.floor(house, other)
                    self.assertEqual(told, floor_by_words(house, other, answer.paper.pages))
                    self.check_against(house, other, good, told)

    def check_against(self, house, costs, good, told):
        if told is None:
            self.assertEqual(good, [])
        else:
            self.assertIs(type(told), int)
            for rota in good:
                self.assertLessEqual(told, total_of(house, costs, rota))

    def test_of_the_same_house_without_its_rules_and_pairs(self):
        dice = random.Random(47)
        for house in bound_houses(47, 80):
            bare = House(house.days, house.kinds, house.needs, house.persons, house.leave, house.wishes, [], [])
            for costs in some_costs(dice, house):
                book = least_by_book(house, costs).paper
                told = book.floor(bare, costs)
                self.assertEqual(told, floor_by_words(bare, costs, book.pages))
                self.check_against(bare, costs, good_rotas(bare), told)

    def test_pages_that_were_changed(self):
        dice = random.Random(48)
        seen = []
        for house in bound_houses(48, 150):
            good = good_rotas(house)
            for costs in some_costs(dice, house)[:4]:
                for pages in some_changes(dice, house, least_by_book(house, costs).paper.pages):
                    told = Book(pages).floor(house, costs)
                    self.assertEqual(told, floor_by_words(house, costs, pages))
                    self.check_against(house, costs, good, told)
                    seen.append(told)
        self.assertGreater(seen.count(None), 100)
        self.assertGreater(seen.count(0), 100)
        self.assertGreater(len([told for told in seen if told]), 100)

    # Ann may have M on each of two days, but not twice; by the level -1 she costs one more than her duties.
    HOUSE = one(2, [Never("MM")], needs=[(0, "M", 1, 1), (1, "M", 0, 1)])
    PAGES = [[(("",), (0,), 0)], [(("M",), (1,), 0)], [(("-",), (1,), 0)]]

    def floor(self, pages, house=None, level=-1):
        house = self.HOUSE if house is None else house
        costs = LevelCosts(house, level)
        told = Book(pages).floor(house, costs)
        self.assertEqual(told, floor_by_words(house, costs, pages))
        return told

    def test_as_it_was_made(self):
        self.assertEqual(least_by_book(self.HOUSE, LevelCosts(self.HOUSE, -1)).paper.pages, self.PAGES)
        self.assertEqual(self.floor(self.PAGES), 2)

    def test_no_pages(self):
        self.assertEqual(self.floor([]), 0)

    def test_page_nought(self):
        for first, expected in (
            ([], 0), ([(("",), (0,), 1)], 0), ([(("",), (0,), -1)], 0), ([(("M",), (0,), 0)], 0),
            ([(("",), (1,), 0)], 0), ([(("",), (0,), 1), (("",), (0,), 0)], 2),
        ):
            self.assertEqual(self.floor([first] + self.PAGES[1:]), expected, first)
        lower = [[(("",), (0,), -3)], [(("M",), (1,), -3)], [(("-",), (1,), -4)]]
        self.assertEqual(self.floor(lower), -2)

    def test_a_cost_more_or_less(self):
        first, second, third = self.PAGES
        for cost, expected in ((1, 0), (0, 2), (-1, 1), (-9, -7)):
            self.assertEqual(self.floor([first, second, [(("-",), (1,), cost)]]), expected)
        for cost in (1, -1):
            self.assertEqual(self.floor([first, [(("M",), (1,), cost)], third]), 0)
        self.assertEqual(self.floor([first, [(("M",), (1,), -1)], [(("-",), (1,), -1)]]), 1)

    def test_entries_left_out_told_twice_and_put_in(self):
        first, second, third = self.PAGES
        self.assertEqual(self.floor([first, second * 2, third * 3]), 2)
        self.assertEqual(self.floor([first, second, third + [(("-",), (1,), 1)]]), 2)
        self.assertEqual(self.floor([first, second, third + [(("N",), (0,), 0)]]), 1)
        self.assertEqual(self.floor([first, second, third + [(("MNM-",), (7,), -20)]]), -12)
        self.assertEqual(self.floor([first, second + [(("-",), (0,), 0)], third]), 0)
        self.assertEqual(self.floor([first, second + [(("NM",), (1,), 0)], third]), 2)
        self.assertEqual(self.floor([first, [(("N",), (1,), 0)], third]), 0)

    def test_pages_emptied_left_out_and_put_behind(self):
        first, second, third = self.PAGES
        self.assertEqual(self.floor([first, second, []]), 0)
        self.assertEqual(self.floor([first, [], third]), 0)
        self.assertEqual(self.floor([first, third]), 0)
        self.assertEqual(self.floor([first, second]), 0)
        self.assertEqual(self.floor([first]), 0)
        self.assertEqual(self.floor([first, second, third, [], [(("Q",), (5,), -9)]]), 2)

    def test_a_house_without_a_good_rota(self):
        house = one(2, [Never("?")])
        first = [(("",), (0,), 0)]
        self.assertIsNone(self.floor([first, []], house))
        self.assertIsNone(self.floor([first, [], [(("",), (0,), 0)]], house))
        self.assertEqual(self.floor([first], house), 0)
        self.assertEqual(self.floor([[], []], house), 0)
        self.assertEqual(self.floor([[]], house), 0)
        self.assertEqual(self.floor([first, [(("",), (0,), 0)]], house), 0)
        self.assertIsNone(self.floor([first, [(("",), (0,), 0)], []], house))

    def test_columns_that_are_refused_as_too_many(self):
        persons = [Person(name, "AB", 14, 0, "") for name in NAMES[:6]]
        needs = [(1, "A", 0, 8), (1, "B", 0, 8)]
        house = House(2, "AB", needs, persons, [], [], [("all", Never("Z"))], [])
        entry = (("",) * 6, (0,) * 6, 0)
        for pages in ([[entry]] * 3, [[entry]] * 2, [[entry], [entry], []]):
            self.assertEqual(Book(pages).floor(house, LevelCosts(house, -1)), 0)
        self.assertEqual(Book([[entry], []]).floor(house, Costs()), 0)
        barred = House(2, "AB", needs, persons, [], [], [("all", Never("?"))], [])
        self.assertIsNone(Book([[entry], [], [entry]]).floor(barred, Costs()))
        at_once = House(1, "AB", [(0, "A", 0, 8), (0, "B", 0, 8)], persons, [], [], [("all", Never("?"))], [])
        self.assertEqual(Book([[entry], []]).floor(at_once, Costs()), 0)

    def test_more_entries_than_a_page_may_have_are_no_fault_of_a_book(self):
        house = wide()
        pages = pages_by_words(house, Costs(), bound=1000)
        self.assertGreater(len(pages[4]), 300)
        self.assertEqual(Book(pages).floor(house, LevelCosts(house, -1)), 4)
        self.assertRaises(TooWide, least_by_book, house, Costs())

    def test_tails_longer_than_they_are_cut(self):
        house = one(1, [Never("MM")], needs=[(0, "M", 0, 1)])
        first = (("",), (0,), 0)
        after = [(("-",), (0,), 0), (("M",), (1,), 0)]
        self.assertEqual(self.floor([[first, (("NNM",), (0,), 0)], after], house), 1)
        self.assertEqual(self.floor([[first, (("MMN",), (0,), 0)], after], house), 1)
        self.assertEqual(self.floor([[first, (("MMN",), (14,), 0)], after], house), 0)
        self.assertEqual(self.floor([[first, (("MMN",), (14,), 0)], after + [(("-",), (14,), 0)]], house), 1)

    def test_without_persons(self):
        house = House(1, "M", [], [], [], [], [("all", Never("M"))], [])
        entry = ((), (), 0)
        self.assertEqual(Book([[entry], [entry]]).floor(house, EvenCosts(house)), 0)
        self.assertEqual(Book([[entry], [((), (), -4)]]).floor(house, EvenCosts(house)), -4)
        self.assertEqual(Book([[entry], []]).floor(house, EvenCosts(house)), 0)
        lacking = House(1, "M", [(0, "M", 1, 1)], [], [], [], [("all", Never("M"))], [])
        self.assertIsNone(Book([[entry], []]).floor(lacking, EvenCosts(lacking)))

    def test_every_small_book(self):
        house = one(1, [Never("M")], needs=[(0, "M", 0, 1), (0, "N", 1, 1)])
        entries = [(("",), (many,), cost) for many in (0, 1) for cost in (-1, 0, 1)]
        every = [list(page) for size in range(3) for page in itertools.combinations(entries, size)]
        for pages in itertools.product(every, repeat=2):
            self.floor(list(pages), house)

    def test_lists_that_are_handed_in_and_changed_behind(self):
        pages = [list(page) for page in self.PAGES]
        book = Book(pages)
        pages[2].clear()
        pages[0].append((("M",), (0,), 0))
        pages.pop()
        self.assertEqual(book.pages, self.PAGES)
        self.assertEqual(book.floor(self.HOUSE, LevelCosts(self.HOUSE, -1)), 2)

    def test_nothing_handed_in_is_changed(self):
        before, book = fields_of(self.HOUSE), Book(self.PAGES)
        for costs in (Costs(), EvenCosts(self.HOUSE), ChangeCosts(self.HOUSE, ["MM"]), LevelCosts(self.HOUSE, 0)):
            self.assertEqual(book.floor(self.HOUSE, costs), book.floor(self.HOUSE, costs))
        self.assertEqual((fields_of(self.HOUSE), book.pages), (before, self.PAGES))


if __name__ == "__main__":
    unittest.main()
