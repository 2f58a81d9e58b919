"""A desk that keeps a house and a rota and is told rows [51, 52]."""

from rotafair.deeds import make, mend, onward, refuse_faults, swapped
from rotafair.errors import NoRow
from rotafair.houses import absent
from rotafair.looks import faults, loads, over
from rotafair.papers import Found
from rotafair.rulewords import made_of
from rotafair.texts import read_house, read_number

MOST_FIGURES_OF_A_DAY = 2


class Desk:
    def __init__(self):
        self.house = None
        self.rota = None

    def say(self, row):
        if not isinstance(row, str):
            raise NoRow("what is no text is no row")
        parts = row.partition("\n")
        if parts[1] == "":
            return answer_words(self, row.split(" "))
        return answer_lines(self, parts[0], parts[2])


def answer_lines(desk, word, text):
    if word == "house":
        return keep(desk, read_house(text), None)
    if desk.house is None or word not in ("lay", "look"):
        raise NoRow("no such row, or no house for it")
    rota = read_rota(desk.house, text)
    if word == "look":
        return "\n".join([spaced(fault) for fault in faults(desk.house, rota)])
    refuse_faults(desk.house, rota)
    return keep(desk, desk.house, rota)


def answer_words(desk, words):
    if desk.house is None or "" in words:
        raise NoRow("no row, or no house for it")
    if words == ["make"]:
        return answer_make(desk)
    if desk.rota is None:
        raise NoRow("no such row, or no rota for it")
    if words == ["show"]:
        return shown_rota(desk.house, desk.rota)
    if words == ["next"]:
        return keep(desk, onward(desk.house, desk.rota), None)
    if words == ["loads"]:
        return spaced(loads(desk.house, desk.rota))
    if words[0] == "over" and len(words) == 2:
        return str(over(desk.house, desk.rota, read_level(words[1])))
    if words[0] == "swap" and len(words) == 4:
        day = read_day(words[3])
        return keep(desk, desk.house, swapped(desk.house, desk.rota, words[1], words[2], day))
    if words[0] == "sick" and len(words) % 2 == 0:
        return answer_sick(desk, words)
    raise NoRow("no such row")


def keep(desk, house, rota):
    # Called with what is ready made, so that whatever is refused has changed nothing.
    desk.house = house
    desk.rota = rota
    return "ok"


def answer_make(desk):
    answer = make(desk.house)
    if not isinstance(answer, Found):
        return "none"
    keep(desk, desk.house, answer.rota)
    total = answer.total
    return f"made {total}"


def answer_sick(desk, words):
    day = read_day(words[1])
    away = [(words[place], read_day(words[place + 1])) for place in range(2, len(words), 2)]
    answer = mend(desk.house, desk.rota, day, away)
    if not isinstance(answer, Found):
        return "none"
    keep(desk, absent(desk.house, away), answer.rota)
    total = answer.total
    return f"changed {total}"


def spaced(parts):
    return " ".join([str(part) for part in parts])


def shown_rota(house, rota):
    return "\n".join([person.name + " " + row for person, row in zip(house.persons, rota)])


def read_rota(house, text):
    # The rota of no persons is the empty text, which a split would tell as one line.
    lines = text.split("\n") if text != "" else []
    if len(lines) != len(house.persons):
        raise NoRow("a rota has a line for each person")
    return [read_line(house, person, line) for person, line in zip(house.persons, lines)]


def read_line(house, person, line):
    words = line.split(" ")
    if len(words) != 2 or words[0] != person.name or len(words[1]) != house.days:
        raise NoRow("a line is the person's name and a mark for each day")
    if not made_of(words[1], house.kinds + "-"):
        raise NoRow("a mark is a kind of the house or a free day")
    return words[1]


def read_day(word):
    day = read_number(word)
    if day == -1 or len(word) > MOST_FIGURES_OF_A_DAY:
        raise NoRow("no day is written so")
    return day


def read_level(word):
    below = word.startswith("-")
    level = read_number(word[1:] if below else word)
    if level == -1 or (below and level == 0):
        raise NoRow("no level is written so")
    return -level if below else level
