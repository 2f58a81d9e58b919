"""What a rota costs, by each of the costs [27]."""

from rotafair.houses import duties_in


class Costs:
    def of_count(self, p, many):
        return 0

    def of_mark(self, p, day, mark):
        return 0


class EvenCosts(Costs):
    def __init__(self, house):
        # One more than all wishes together: no wish is worth a greater sum of squares.
        self.weight = len(house.wishes) + 1
        self.burdens = burdens_of(house)
        self.wished = wishes_by_place(house)

    def of_count(self, p, many):
        return self.weight * (self.burdens[p] + many) ** 2

    def of_mark(self, p, day, mark):
        return len([marks for marks in self.wished.get((p, day), []) if mark not in marks])


class ChangeCosts(Costs):
    def __init__(self, house, rota):
        self.rows = list(rota)

    def of_mark(self, p, day, mark):
        return 0 if self.rows[p][day] == mark else 1


class LevelCosts(Costs):
    def __init__(self, house, level):
        self.burdens = burdens_of(house)
        self.level = level

    def of_count(self, p, many):
        return max(0, self.burdens[p] + many - self.level)


def burdens_of(house):
    return [person.carried for person in house.persons]


def wishes_by_place(house):
    # Of each person and day the marks of all its wishes, so that a mark is asked of these alone.
    wished = {}
    for name, day, marks in house.wishes:
        wished.setdefault((house.place_of(name), day), []).append(marks)
    return wished


def total_of(house, costs, rota):
    total = 0
    for p, row in enumerate(rota):
        total += costs.of_count(p, duties_in(row))
        total += sum([costs.of_mark(p, day, mark) for day, mark in enumerate(row)])
    return total
