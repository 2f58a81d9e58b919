"""The columns of a day: a mark for each person, as needs, skills, leave and pairs let them stand [39]."""

from rotafair.alike import longer_rows
from rotafair.errors import TooWide
from rotafair.looks import breaks_pair

MOST_COLUMNS = 256


def columns(house, day):
    choices = [house.may(p, day) + "-" for p in range(len(house.persons))]
    many = 1
    for marks in choices:
        many *= len(marks)
    # Asked ahead of the columns themselves: too many are never made.
    if many > MOST_COLUMNS:
        raise TooWide("there are too many columns to choose from")
    found = [""]
    for marks in choices:
        found = longer_rows(found, marks)
    return sorted([column for column in found if meets_needs(house, day, column) and keeps_pairs(house, column)])


def meets_needs(house, day, column):
    for kind in house.kinds:
        need = house.need(day, kind)
        if not need[0] <= column.count(kind) <= need[1]:
            return False
    return True


def keeps_pairs(house, column):
    for word, name, other in house.pairs:
        if breaks_pair(word, column[house.place_of(name)], column[house.place_of(other)]):
            return False
    return True
