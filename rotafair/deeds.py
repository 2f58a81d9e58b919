"""What is done with rotas: made, mended, swapped in, carried on [45, 48 to 50]."""

from rotafair.book import least_by_book
from rotafair.costs import ChangeCosts, EvenCosts
from rotafair.errors import Faulty, NoDay
from rotafair.houses import House, Person, absent, person_behind, rest
from rotafair.looks import faults
from rotafair.papers import Found
from rotafair.plain import least_plain


def least_answer(house, costs):
    return least_plain(house, costs) if house.plain() else least_by_book(house, costs)


def make(house):
    return least_answer(house, EvenCosts(house))


def refuse_day(house, day, first):
    if day < first or day >= house.days:
        raise NoDay("the day is none of those that may be told")


def refuse_faults(house, rota):
    found = faults(house, rota)
    if found:
        first = found[0]
        raise Faulty(first[0], first[1], first[2], first[3])


def mend(house, rota, day, away):
    refuse_day(house, day, 0)
    for name, at in away:
        # It is this look-up that refuses a name that nobody has.
        house.place_of(name)
        refuse_day(house, at, day)
    refuse_faults(house, rota)
    left = rest(absent(house, away), rota, day)
    answer = least_answer(left, ChangeCosts(left, [row[day:] for row in rota]))
    if not isinstance(answer, Found):
        return answer
    whole = [row[:day] + mended for row, mended in zip(rota, answer.rota)]
    return Found(whole, answer.total, answer.paper)


def swapped(house, rota, name, other, day):
    first = house.place_of(name)
    second = house.place_of(other)
    refuse_day(house, day, 0)
    changed = list(rota)
    changed[first] = row_with(rota[first], day, rota[second][day])
    changed[second] = row_with(rota[second], day, rota[first][day])
    refuse_faults(house, changed)
    return changed


def row_with(row, day, mark):
    return row[:day] + mark + row[day + 1:]


def onward(house, rota):
    refuse_faults(house, rota)
    persons = [person_onward(person, row) for person, row in zip(house.persons, rota)]
    return House(house.days, house.kinds, house.needs, persons, [], [], house.rules, house.pairs)


def person_onward(person, row):
    later = person_behind(person, row)
    # The next days are as many again, and so is what a person may do in them.
    return Person(person.name, person.skills, person.most, later.carried, later.past)
