"""Persons and houses, what rests of a house, and a house with some away [17 to 20, 46, 47]."""

from rotafair.errors import NoDay, NoName
from rotafair.rules import last_marks

PAST_MARKS = 6


class Person:
    def __init__(self, name, skills, most, carried, past):
        self.name = name
        self.skills = skills
        self.most = most
        self.carried = carried
        self.past = past


class House:
    def __init__(self, days, kinds, needs, persons, leave, wishes, rules, pairs):
        self.days = days
        self.kinds = kinds
        # Lists of its own: whoever handed these in may go on changing theirs.
        self.needs = list(needs)
        self.persons = list(persons)
        self.leave = list(leave)
        self.wishes = list(wishes)
        self.rules = list(rules)
        self.pairs = list(pairs)

    def need(self, day, kind):
        for need_day, need_kind, least, most in self.needs:
            if need_day == day and need_kind == kind:
                return (least, most)
        return (0, 0)

    def may(self, p, day):
        person = self.persons[p]
        if (person.name, day) in self.leave:
            return ""
        able = [kind for kind in self.kinds if kind in person.skills]
        return "".join([kind for kind in able if self.need(day, kind)[1] >= 1])

    def place_of(self, name):
        for p, person in enumerate(self.persons):
            if person.name == name:
                return p
        raise NoName("no person of the house is called so")

    def rules_for(self, p):
        names = ("all", self.persons[p].name)
        return [(number, told[1]) for number, told in enumerate(self.rules) if told[0] in names]

    def reach_of(self, p):
        return max([rule.reach() for number, rule in self.rules_for(p)], default=1)

    def plain(self):
        return len(self.rules) == 0 and len(self.pairs) == 0


def duties_in(marks):
    return len([mark for mark in marks if mark != "-"])


def person_behind(person, marks):
    done = duties_in(marks)
    past = last_marks(person.past + marks, PAST_MARKS)
    return Person(person.name, person.skills, person.most - done, person.carried + done, past)


def rest(house, rota, day):
    needs = [(at - day, kind, least, most) for at, kind, least, most in house.needs if at >= day]
    persons = [person_behind(person, row[:day]) for person, row in zip(house.persons, rota)]
    leave = [(name, at - day) for name, at in house.leave if at >= day]
    wishes = [(name, at - day, marks) for name, at, marks in house.wishes if at >= day]
    return House(house.days - day, house.kinds, needs, persons, leave, wishes, house.rules, house.pairs)


def absent(house, away):
    for name, day in away:
        # It is this look-up that refuses a name that nobody has.
        house.place_of(name)
        if day < 0 or day >= house.days:
            raise NoDay("the day is none of the house's")
    leave = house.leave + list(away)
    return House(
        house.days, house.kinds, house.needs, house.persons, leave, house.wishes, house.rules, house.pairs
    )
