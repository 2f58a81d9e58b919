"""Houses written as texts and read from them [21, 22]."""

from rotafair.errors import NoHouse, NoRule
from rotafair.houses import PAST_MARKS, House, Person
from rotafair.rulewords import made_of, read_rule

CAPITALS = "ABCDEFGHIJKLMNOPQRSTUVWXYZ"
SMALL = "abcdefghijklmnopqrstuvwxyz"
FIGURES = "0123456789"
# A carried burden is below 10 ** 40, and no other number is as great.
MOST_FIGURES = 40
MOST_DAYS = 14
MOST_KINDS = 4
MOST_NEED = 8
MOST_PERSONS = 8
MOST_SIGNS_OF_A_NAME = 8
MOST_DUTIES = 14
MOST_LEAVE = 60
MOST_WISHES = 60
MOST_RULES = 8
MOST_PAIRS = 8
# The place of each sort of row behind the rows of days and kinds; pairs are one sort.
PLACES = {"need": 0, "person": 1, "leave": 2, "wish": 3, "rule": 4, "apart": 5, "with": 5}


def shown(house):
    days = house.days
    kinds = house.kinds
    rows = [f"days {days}", f"kinds {kinds}"]
    rows += [f"need {day} {kind} {least} {most}" for day, kind, least, most in house.needs]
    rows += [shown_person(person) for person in house.persons]
    rows += [f"leave {name} {day}" for name, day in house.leave]
    rows += [f"wish {name} {day} {marks}" for name, day, marks in house.wishes]
    rows += [shown_rule(name, rule) for name, rule in house.rules]
    rows += [f"{word} {name} {other}" for word, name, other in house.pairs]
    return "\n".join(rows)


def shown_person(person):
    numbers = [str(person.most), str(person.carried)]
    return " ".join(["person", person.name, dotted(person.skills)] + numbers + [dotted(person.past)])


def dotted(word):
    return "." if word == "" else word


def shown_rule(name, rule):
    text = rule.text()
    return f"rule {name} {text}"


def read_house(text):
    rows = [row.split(" ") for row in text.split("\n")]
    if not is_days_row(rows[0]):
        raise NoHouse(0)
    if len(rows) == 1 or not is_kinds_row(rows[1]):
        raise NoHouse(1)
    house = House(read_number(rows[0][1]), rows[1][1], [], [], [], [], [], [])
    latest = 0
    for line in range(2, len(rows)):
        place = PLACES.get(rows[line][0], -1)
        if place < latest or not put_row(house, rows[line]):
            raise NoHouse(line)
        latest = place
    return house


def is_days_row(words):
    return len(words) == 2 and words[0] == "days" and 1 <= read_number(words[1]) <= MOST_DAYS


def is_kinds_row(words):
    return len(words) == 2 and words[0] == "kinds" and are_unlike(words[1], CAPITALS) and len(words[1]) <= MOST_KINDS


def put_row(house, words):
    # Each of these puts its row into the house where the row is good, and tells whether it is.
    if words[0] == "need":
        return put_need(house, words)
    if words[0] == "person":
        return put_person(house, words)
    if words[0] == "leave":
        return put_leave(house, words)
    if words[0] == "wish":
        return put_wish(house, words)
    if words[0] == "rule":
        return put_rule(house, words)
    return put_pair(house, words)


def put_need(house, words):
    if len(words) != 5 or not is_day(house, words[1]) or not is_kind(house, words[2]):
        return False
    least = read_number(words[3])
    most = read_number(words[4])
    if not 0 <= least <= most <= MOST_NEED:
        return False
    need = (read_number(words[1]), words[2], least, most)
    if house.needs and place_of_need(house, need) <= place_of_need(house, house.needs[-1]):
        return False
    house.needs.append(need)
    return True


def place_of_need(house, need):
    return (need[0], house.kinds.index(need[1]))


def put_person(house, words):
    if len(words) != 6 or len(house.persons) == MOST_PERSONS or not is_new_name(house, words[1]):
        return False
    if not are_skills(house, words[2]) or not is_past(house, words[5]):
        return False
    most = read_number(words[3])
    carried = read_number(words[4])
    if not 0 <= most <= MOST_DUTIES or carried < 0:
        return False
    house.persons.append(Person(words[1], undotted(words[2]), most, carried, undotted(words[5])))
    return True


def undotted(word):
    return "" if word == "." else word


def are_skills(house, word):
    return word == "." or are_unlike(word, house.kinds)


def is_past(house, word):
    return word == "." or (1 <= len(word) <= PAST_MARKS and made_of(word, house.kinds + "-"))


def put_leave(house, words):
    if len(words) != 3 or len(house.leave) == MOST_LEAVE:
        return False
    if not is_person(house, words[1]) or not is_day(house, words[2]):
        return False
    house.leave.append((words[1], read_number(words[2])))
    return True


def put_wish(house, words):
    if len(words) != 4 or len(house.wishes) == MOST_WISHES:
        return False
    if not is_person(house, words[1]) or not is_day(house, words[2]):
        return False
    if not are_unlike(words[3], house.kinds + "-"):
        return False
    house.wishes.append((words[1], read_number(words[2]), words[3]))
    return True


def put_rule(house, words):
    if len(words) < 3 or len(house.rules) == MOST_RULES:
        return False
    if words[1] != "all" and not is_person(house, words[1]):
        return False
    try:
        rule = read_rule(" ".join(words[2:]))
    except NoRule:
        return False
    house.rules.append((words[1], rule))
    return True


def put_pair(house, words):
    if len(words) != 3 or len(house.pairs) == MOST_PAIRS:
        return False
    if not is_person(house, words[1]) or not is_person(house, words[2]) or words[1] == words[2]:
        return False
    house.pairs.append((words[0], words[1], words[2]))
    return True


def read_number(word):
    # -1 stands for what is no number: no number of a house is below 0.
    if not 1 <= len(word) <= MOST_FIGURES or not made_of(word, FIGURES):
        return -1
    if word[0] == "0" and word != "0":
        return -1
    return int(word)


def are_unlike(word, signs):
    return len(word) >= 1 and made_of(word, signs) and len(set(word)) == len(word)


def is_day(house, word):
    return 0 <= read_number(word) < house.days


def is_kind(house, word):
    return len(word) == 1 and word in house.kinds


def is_person(house, name):
    return any([person.name == name for person in house.persons])


def is_new_name(house, name):
    if not 1 <= len(name) <= MOST_SIGNS_OF_A_NAME or not made_of(name, SMALL):
        return False
    return name != "all" and not is_person(house, name)
