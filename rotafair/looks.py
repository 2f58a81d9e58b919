"""Looks at a rota of a house: duties, loads, wishes not met, faults [23 to 26]."""

from rotafair.houses import duties_in


def counts(house, rota):
    return [duties_in(row) for row in rota]


def loads(house, rota):
    return [person.carried + duties_in(row) for person, row in zip(house.persons, rota)]


def over(house, rota, level):
    return sum([load - level for load in loads(house, rota) if load > level])


def unmet(house, rota):
    return len([day for name, day, marks in house.wishes if rota[house.place_of(name)][day] not in marks])


def faults(house, rota):
    found = []
    for day in range(house.days):
        found += skill_faults(house, rota, day)
        found += leave_faults(house, rota, day)
        found += need_faults(house, rota, day)
        found += most_faults(house, rota, day)
        found += rule_faults(house, rota, day)
        found += pair_faults(house, rota, day)
    return found


def on_duty(house, rota, day):
    # In the order of the persons, as most sorts of faults are told.
    return [(person, row) for person, row in zip(house.persons, rota) if row[day] != "-"]


def skill_faults(house, rota, day):
    having = on_duty(house, rota, day)
    return [(day, "skill", person.name, row[day]) for person, row in having if row[day] not in person.skills]


def leave_faults(house, rota, day):
    having = on_duty(house, rota, day)
    return [(day, "leave", person.name, row[day]) for person, row in having if (person.name, day) in house.leave]


def need_faults(house, rota, day):
    found = []
    for kind in house.kinds:
        need = house.need(day, kind)
        many = len([row for row in rota if row[day] == kind])
        if many < need[0] or many > need[1]:
            found.append((day, "need", kind, many))
    return found


def most_faults(house, rota, day):
    found = []
    for person, row in on_duty(house, rota, day):
        many = duties_in(row[:day + 1])
        if many > person.most:
            found.append((day, "most", person.name, many))
    return found


def rule_faults(house, rota, day):
    found = []
    for p, person in enumerate(house.persons):
        marks = person.past + rota[p][:day + 1]
        bound = house.rules_for(p)
        found += [(day, "rule", person.name, number) for number, rule in bound if rule.bad(marks)]
    return found


def pair_faults(house, rota, day):
    found = []
    for number, pair in enumerate(house.pairs):
        mark = rota[house.place_of(pair[1])][day]
        other = rota[house.place_of(pair[2])][day]
        if breaks_pair(pair[0], mark, other):
            found.append((day, "pair", pair[1], number))
    return found


def breaks_pair(word, mark, other):
    if mark == "-":
        return False
    return mark == other if word == "apart" else mark != other
