"""Small houses for the tests, every rota of them, and the costs of point 27."""

import itertools

from rotafair.costs import ChangeCosts, Costs, EvenCosts, LevelCosts
from rotafair.houses import House, Person
from rotafair.looks import faults

BIG = 10 ** 40 - 1
NAMES = ("ann", "bob", "cy", "dee", "eve", "fay", "gus", "hal")


def all_rotas(house):
    rows = ["".join(marks) for marks in itertools.product(house.kinds + "-", repeat=house.days)]
    return [list(rota) for rota in itertools.product(rows, repeat=len(house.persons))]


def good_rotas(house):
    return [rota for rota in all_rotas(house) if not faults(house, rota)]


def some_marks(dice, signs, least=0, share=0.5):
    marks = [sign for sign in signs if dice.random() < share]
    return "".join(marks if len(marks) >= least else [dice.choice(signs)])


def some_needs(dice, days, kinds, most=2):
    needs = []
    for day in range(days):
        for kind in kinds:
            if dice.random() < 0.8:
                least = dice.choice((0, 0, 0, 1, 1, 2))
                needs.append((day, kind, least, least + dice.randint(0, most)))
    return needs


def some_persons(dice, days, kinds, many, big=BIG):
    persons = []
    for name in NAMES[:many]:
        carried = dice.choice((0, 0, 1, 2, 3, 7, big, big - 1))
        past = "".join(dice.choice(kinds + "-") for mark in range(dice.randint(0, 6)))
        most = dice.choice((days, dice.randint(0, days)))
        persons.append(Person(name, some_marks(dice, kinds, share=0.8), most, carried, past))
    return persons


def some_house(dice, days, kinds, many, rules=(), pairs=(), big=BIG):
    """A house by chance; about as often as not its persons can do what is asked."""
    persons = some_persons(dice, days, kinds, many, big)
    places = [(person.name, day) for person in persons for day in range(days)]
    leave = [place for place in places if dice.random() < 0.15]
    wishes = [place + (some_marks(dice, kinds + "-", 1),) for place in places if dice.random() < 0.5]
    wishes += [wish for wish in wishes if dice.random() < 0.2]
    return House(days, kinds, some_needs(dice, days, kinds), persons, leave, wishes, list(rules), list(pairs))


def some_rota(dice, house):
    return ["".join(dice.choice(house.kinds + "-") for day in range(house.days)) for person in house.persons]


def some_costs(dice, house):
    """Each of the costs, with the base, and levels below, between and above the loads."""
    loads = [0] + [person.carried for person in house.persons]
    return [
        Costs(), EvenCosts(house), ChangeCosts(house, some_rota(dice, house)),
        LevelCosts(house, dice.choice(loads) + dice.randint(-1, 3)), LevelCosts(house, -dice.randint(1, 5)),
    ]


def fields_of(house):
    """All that a house holds, as a value of its own."""
    persons = [(one.name, one.skills, one.most, one.carried, one.past) for one in house.persons]
    rules = [(name, rule.text()) for name, rule in house.rules]
    lists = (list(house.needs), persons, list(house.leave), list(house.wishes), rules, list(house.pairs))
    return (house.days, house.kinds) + lists
