"""The book: pages of entries, day by day, and the least answer that they tell [40 to 44].

An entry is a tuple (tails, counts, cost). Of a good rota all that later days
hang on is in the tails and counts of its first days: so one entry, the
cheapest, stands for all rotas that share them.
"""

from rotafair.columns import columns
from rotafair.costs import total_of
from rotafair.errors import TooWide
from rotafair.papers import Found, Paper, Without
from rotafair.rules import last_marks

MOST_ENTRIES = 300


class Book(Paper):
    def __init__(self, pages):
        self.pages = [list(page) for page in pages]

    def floor(self, house, costs):
        walk = Walk(house, costs)
        if len(self.pages) == 0 or not is_covered(first_entry(walk), cheapest(self.pages[0])):
            return 0
        for day, page in enumerate(self.pages):
            if len(page) == 0:
                return None
            if day == house.days:
                return min([whole_cost(costs, entry[1], entry[2]) for entry in page])
            following = self.pages[day + 1] if day + 1 < len(self.pages) else []
            if not leads_on(walk, day, page, cheapest(following)):
                return 0
        return 0


class Walk:
    # What every step through a house asks for, looked up once.
    def __init__(self, house, costs):
        persons = list(range(len(house.persons)))
        self.house = house
        self.costs = costs
        self.bound = [[rule for number, rule in house.rules_for(p)] for p in persons]
        self.kept = [house.reach_of(p) - 1 for p in persons]
        self.known = {}


def first_entry(walk):
    tails = [last_marks(person.past, kept) for person, kept in zip(walk.house.persons, walk.kept)]
    return (tuple(tails), tuple([0] * len(tails)), 0)


def whole_cost(costs, counts, cost):
    return cost + sum([costs.of_count(p, many) for p, many in enumerate(counts)])


def cheapest(page):
    # A page may tell the same tails and counts twice; what it must hold, it holds by the least cost.
    least = {}
    for tails, counts, cost in page:
        place = (tails, counts)
        least[place] = min(cost, least.get(place, cost))
    return least


def is_covered(entry, least):
    place = (entry[0], entry[1])
    return place in least and least[place] <= entry[2]


def leads_on(walk, day, page, least):
    try:
        every = columns(walk.house, day)
    except TooWide:
        return False
    for entry in page:
        for step, column in steps_from(walk, day, entry, every):
            if not is_covered(step, least):
                return False
    return True


def steps_from(walk, day, entry, every):
    choices = [marks_from(walk, day, entry, p) for p in range(len(entry[0]))]
    steps = []
    for column in every:
        chosen = [choice.get(mark) for choice, mark in zip(choices, column)]
        if None not in chosen:
            tails = tuple([part[0] for part in chosen])
            counts = tuple([part[1] for part in chosen])
            steps.append(((tails, counts, entry[2] + sum([part[2] for part in chosen])), column))
    return steps


def marks_from(walk, day, entry, p):
    # Of each mark with which this person makes a step: their tail and count then, and the mark's cost.
    found = {}
    for mark in walk.house.kinds + "-":
        many = entry[1][p] if mark == "-" else entry[1][p] + 1
        tail = tail_behind(walk, p, entry[0][p], mark)
        if tail is not None and many <= walk.house.persons[p].most:
            found[mark] = (tail, many, walk.costs.of_mark(p, day, mark))
    return found


def tail_behind(walk, p, tail, mark):
    # None where the day is bad. The same few tails come again and again, so the rules are asked once of each.
    asked = (p, tail, mark)
    if asked not in walk.known:
        marks = tail + mark
        bad = any([rule.bad(marks) for rule in walk.bound[p]])
        walk.known[asked] = None if bad else last_marks(marks, walk.kept[p])
    return walk.known[asked]


def least_by_book(house, costs):
    walk = Walk(house, costs)
    reached = places_by_day(walk)
    book = Book([page_of(places) for places in reached])
    ends = [(whole_cost(costs, place[1], told[0]), place) for place, told in reached[-1].items()]
    if len(ends) == 0:
        return Without(book)
    rota = rota_to(house, reached, min(ends)[1])
    return Found(rota, total_of(house, costs, rota), book)


def places_by_day(walk):
    # Of each page, by tails and counts: the least cost, and from where and by which column it is come to.
    first = first_entry(walk)
    reached = [{(first[0], first[1]): (first[2], None, "")}]
    for day in range(walk.house.days):
        if len(reached[day]) == 0:
            break
        reached.append(next_places(walk, day, reached[day]))
    return reached


def next_places(walk, day, places):
    every = columns(walk.house, day)
    coming = {}
    for place, told in places.items():
        for step, column in steps_from(walk, day, (place[0], place[1], told[0]), every):
            goal = (step[0], step[1])
            if goal not in coming or step[2] < coming[goal][0]:
                coming[goal] = (step[2], place, column)
        if len(coming) > MOST_ENTRIES:
            raise TooWide("a page has too many entries")
    return coming


def page_of(places):
    return [(place[0], place[1], places[place][0]) for place in sorted(places)]


def rota_to(house, reached, place):
    rows = ["" for person in house.persons]
    # From the last day back: only there is it known which places the least rota comes by.
    for day in range(house.days, 0, -1):
        told = reached[day][place]
        rows = [mark + row for mark, row in zip(told[2], rows)]
        place = told[1]
    return rows
