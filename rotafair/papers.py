"""Papers, which show that no good rota costs less, and answers that stand on them [33 to 36]."""

from rotafair.costs import total_of
from rotafair.looks import faults


class Paper:
    def floor(self, house, costs):
        # No cost is below 0.
        return 0


class Places(Paper):
    def __init__(self, places):
        self.places = list(places)

    def floor(self, house, costs):
        asked = [need for need in house.needs if (need[0], need[1]) in self.places]
        least = sum([need[2] for need in asked])
        able = sum([able_to_do(house, p, asked) for p in range(len(house.persons))])
        return None if least > able else 0


class Prices(Paper):
    def __init__(self, persons, needs):
        self.persons = list(persons)
        self.needs = list(needs)

    def floor(self, house, costs):
        if len(self.persons) != len(house.persons) or len(self.needs) != len(house.needs):
            return 0
        total = sum([floor_of_need(need, price) for need, price in zip(house.needs, self.needs)])
        charges = charges_by_place(house, self.needs)
        for p, price in enumerate(self.persons):
            total += floor_of_counts(house, costs, p, price)
            total += sum([floor_of_day(house, costs, p, day, price, charges) for day in range(house.days)])
        return total


class Answer:
    def stands(self, house, costs):
        return False


class Found(Answer):
    def __init__(self, rota, total, paper):
        self.rota = list(rota)
        self.total = total
        self.paper = paper

    def stands(self, house, costs):
        if faults(house, self.rota) or total_of(house, costs, self.rota) != self.total:
            return False
        return self.paper.floor(house, costs) == self.total


class Without(Answer):
    def __init__(self, paper):
        self.paper = paper

    def stands(self, house, costs):
        return self.paper.floor(house, costs) is None


def able_to_do(house, p, asked):
    days = [day for day, kind, least, most in asked if kind in house.may(p, day)]
    return min(house.persons[p].most, len(set(days)))


def charges_by_place(house, prices):
    charges = {}
    for need, price in zip(house.needs, prices):
        charges[(need[0], need[1])] = price
    return charges


def floor_of_need(need, price):
    return min(price * need[2], price * need[3])


def floor_of_counts(house, costs, p, price):
    most = house.persons[p].most
    return min([costs.of_count(p, many) - price * many for many in range(most + 1)])


def floor_of_day(house, costs, p, day, price, charges):
    kinds = house.may(p, day)
    duties = [costs.of_mark(p, day, kind) + price - charges[(day, kind)] for kind in kinds]
    return min([costs.of_mark(p, day, "-")] + duties)
