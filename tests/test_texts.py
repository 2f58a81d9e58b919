"""Points 21 and 22: a house written as a text, and read from one."""

import random
import unittest

from rotafair.errors import Faulty, NoDay, NoHouse, NoName, NoRow, NoRule, RotaError, TooWide
from rotafair.houses import House, Person
from rotafair.rules import Both, Either, Least, Most, Never, Not
from rotafair.texts import read_house, shown

WARD = """days 5
kinds MNQ
need 0 M 1 2
need 0 N 0 0
need 1 M 0 1
need 4 Q 2 8
person ann NM 3 5 N-
person bob . 14 0 .
person cy QMN 0 17 .
person dee . 10 9999999999999999999999999999999999999999 NMQ---
leave ann 1
leave dee 4
leave ann 1
wish bob 0 M-
wish ann 4 -
wish bob 0 M-
rule all never NN
rule ann not ( never M and most 2 of # in 5 )
rule all least 1 of - in 7
apart ann bob
with bob cy
apart ann bob"""
HEAD = ["days 5", "kinds MNQ"]
PEOPLE = HEAD + ["person ann MN 3 0 .", "person bob Q 14 7 -M"]
ODD_FIGURES = "\u0663\u00b2\uff12\u2461\u4e8c\u00bd\u0967\U0001d7d0"
OTHER_WHITE = "\t\r\v\f\u00a0\u2003\x1c\x85\u2028\u200b"


def ward():
    return House(
        5, "MNQ",
        [(0, "M", 1, 2), (0, "N", 0, 0), (1, "M", 0, 1), (4, "Q", 2, 8)],
        [
            Person("ann", "NM", 3, 5, "N-"), Person("bob", "", 14, 0, ""),
            Person("cy", "QMN", 0, 17, ""), Person("dee", "", 10, 10 ** 40 - 1, "NMQ---"),
        ],
        [("ann", 1), ("dee", 4), ("ann", 1)],
        [("bob", 0, "M-"), ("ann", 4, "-"), ("bob", 0, "M-")],
        [("all", Never("NN")), ("ann", Not(Both(Never("M"), Most(2, "#", 5)))), ("all", Least(1, "-", 7))],
        [("apart", "ann", "bob"), ("with", "bob", "cy"), ("apart", "ann", "bob")],
    )


def house_fields(house):
    persons = [(one.name, one.skills, one.most, one.carried, one.past) for one in house.persons]
    rules = [(name, rule.text()) for name, rule in house.rules]
    return (house.days, house.kinds, house.needs, persons, house.leave, house.wishes, rules, house.pairs)


def numbers_in(value):
    if isinstance(value, (list, tuple)):
        return [number for part in value for number in numbers_in(part)]
    return [] if isinstance(value, str) else [value]


class TextTest(unittest.TestCase):
    def assert_good(self, rows):
        """Rows that are just those of a house: read, and shown by the same rows."""
        text = "\n".join(rows)
        self.assertEqual(shown(read_house(text)), text)

    def assert_line(self, rows, line):
        text = rows if isinstance(rows, str) else "\n".join(rows)
        with self.assertRaises(NoHouse, msg=repr(text)) as taken:
            read_house(text)
        self.assertEqual(taken.exception.line, line, repr(text))
        self.assertIs(type(taken.exception.line), int)

    def assert_bad_row(self, rows, row):
        """The row can't stand behind these, which are good; nor can it with more rows behind it."""
        self.assert_line(rows + [row], len(rows))
        self.assert_line(rows + [row, "apart ann bob"], len(rows))
        self.assert_line(rows + [row, "no row"], len(rows))


class Shown(TextTest):
    def test_to_the_letter(self):
        self.assertEqual(shown(ward()), WARD)

    def test_each_sort_of_row(self):
        house = ward()
        only = House(14, "Z", [], [], [], [], [], [])
        self.assertEqual(shown(only), "days 14\nkinds Z")
        only = House(1, "ZA", [(0, "Z", 0, 8), (0, "A", 8, 8)], [], [], [], [], [])
        self.assertEqual(shown(only), "days 1\nkinds ZA\nneed 0 Z 0 8\nneed 0 A 8 8")
        only = House(5, "MN", [], house.persons[:1], [("ann", 4)], [], [], [])
        self.assertEqual(shown(only), "days 5\nkinds MN\nperson ann NM 3 5 N-\nleave ann 4")
        only = House(5, "MN", [], house.persons[:1], [], [("ann", 4, "-NM")], [], [])
        self.assertEqual(shown(only), "days 5\nkinds MN\nperson ann NM 3 5 N-\nwish ann 4 -NM")
        only = House(5, "MN", [], [], [], [], [("all", Never("Z?"))], [])
        self.assertEqual(shown(only), "days 5\nkinds MN\nrule all never Z?")

    def test_dots(self):
        for skills, past, words in (
            ("", "", ". 0 0 ."), ("M", "", "M 0 0 ."), ("", "-", ". 0 0 -"), ("NM", "M-", "NM 0 0 M-"),
        ):
            house = House(1, "MN", [], [Person("abcdefgh", skills, 0, 0, past)], [], [], [], [])
            self.assertEqual(shown(house), f"days 1\nkinds MN\nperson abcdefgh {words}")

    def test_what_has_grown(self):
        house = House(1, "M", [], [Person("a", "M", 1, 10 ** 40 + 13, "")], [("a", 0)] * 61, [], [], [])
        rows = shown(house).split("\n")
        self.assertEqual(rows[2], "person a M 1 1" + "0" * 38 + "13 .")
        self.assertEqual(rows[3:], ["leave a 0"] * 61)

    def test_it_changes_nothing(self):
        house = ward()
        before = house_fields(house)
        self.assertEqual(shown(house), shown(house))
        self.assertEqual(house_fields(house), before)
        self.assertEqual(house_fields(house), house_fields(ward()))


class Read(TextTest):
    def test_to_the_letter(self):
        house = read_house(WARD)
        self.assertIs(type(house), House)
        self.assertEqual(house_fields(house), house_fields(ward()))
        self.assertEqual(shown(house), WARD)

    def test_the_kinds_of_what_is_read(self):
        house = read_house(WARD)
        for number in numbers_in(house_fields(house)):
            self.assertIs(type(number), int)
        for field in (house.needs, house.leave, house.wishes, house.rules, house.pairs):
            self.assertIs(type(field), list)
            self.assertEqual({type(part) for part in field}, {tuple})
        self.assertEqual({type(person) for person in house.persons}, {Person})
        self.assertEqual(type(house.rules[1][1]), Not)

    def test_days_and_kinds_alone(self):
        for days in range(1, 15):
            self.assert_good([f"days {days}", "kinds N"])
        for kinds in ("A", "Z", "ZA", "QMN", "DCBA"):
            self.assert_good(["days 3", f"kinds {kinds}"])

    def test_every_prefix_of_the_rows(self):
        rows = WARD.split("\n")
        for many in range(2, len(rows) + 1):
            self.assert_good(rows[:many])

    def test_every_sort_alone(self):
        for row in ("need 4 Q 8 8", "need 0 M 0 0", "person a . 0 0 .", "rule all never Q"):
            self.assert_good(HEAD + [row])
        for row in ("leave bob 0", "wish ann 4 QNM-", "rule bob never -", "apart bob ann", "with ann bob"):
            self.assert_good(PEOPLE + [row])

    def test_a_read_house_shares_nothing_with_another(self):
        first, second = read_house(WARD), read_house(WARD)
        for field in (first.needs, first.persons, first.leave, first.wishes, first.rules, first.pairs):
            field.clear()
        self.assertEqual(shown(second), WARD)
        self.assertEqual(shown(read_house(WARD)), WARD)

    def test_rules_by_any_text_that_is_read(self):
        rows = PEOPLE + ["rule all ( ( never N ) and ( never M ) )", "rule ann not ( not ( never Z ) )"]
        house = read_house("\n".join(rows))
        self.assertEqual([name for name, rule in house.rules], ["all", "ann"])
        self.assertEqual([rule.text() for name, rule in house.rules], ["never N and never M", "not not never Z"])
        again = "\n".join(PEOPLE + ["rule all never N and never M", "rule ann not not never Z"])
        self.assertEqual(shown(house), again)
        self.assertEqual(shown(read_house(again)), again)

    def test_rules_of_just_sixty_words_and_one_more(self):
        sixty = "not " * 58 + "never N"
        self.assert_good(PEOPLE + [f"rule all {sixty}"])
        self.assert_bad_row(PEOPLE, f"rule all not {sixty}")
        bracketed = "( " * 29 + "never N" + " )" * 29
        house = read_house("\n".join(HEAD + [f"rule all {bracketed}"]))
        self.assertEqual(shown(house), "\n".join(HEAD + ["rule all never N"]))
        self.assert_bad_row(HEAD, f"rule all ( {bracketed} )")

    def test_shown_read_and_shown_again(self):
        chance = random.Random(7)
        for _ in range(300):
            house = some_house(chance)
            text = shown(house)
            read = read_house(text)
            self.assertEqual(shown(read), text)
            self.assertEqual(house_fields(read), house_fields(house))


def some_rule(chance, depth):
    if depth == 0 or chance.random() < 0.3:
        marks = "".join(chance.sample("ABMNZ-#", chance.randint(1, 5)))
        counted = chance.choice((Most, Least))(chance.randint(0, 7), marks, chance.randint(1, 7))
        return chance.choice((counted, Never("".join(chance.choices("AMNZ-#?", k=chance.randint(1, 7))))))
    inner, other = some_rule(chance, depth - 1), some_rule(chance, depth - 1)
    return chance.choice((Not(inner), Both(inner, other), Either(inner, other)))


def some_house(chance):
    days, kinds = chance.randint(1, 14), "".join(chance.sample("ABMNQZ", chance.randint(1, 4)))
    needs = []
    for day in range(days):
        for kind in kinds:
            most = chance.randint(0, 8)
            if chance.random() < 0.5:
                needs.append((day, kind, chance.randint(0, most), most))
    names = chance.sample(("ann", "b", "alls", "al", "abcdefgh", "days", "with", "z", "person"), chance.randint(0, 8))
    persons = []
    for name in names:
        skills = "".join(chance.sample(kinds, chance.randint(0, len(kinds))))
        past = "".join(chance.choices(kinds + "-", k=chance.randint(0, 6)))
        persons.append(Person(name, skills, chance.randint(0, 14), chance.randrange(10 ** chance.randint(0, 40)), past))
    leave, wishes, pairs, rules = [], [], [], []
    if names:
        leave = [(chance.choice(names), chance.randrange(days)) for _ in range(chance.randint(0, 60))]
        for _ in range(chance.randint(0, 60)):
            marks = "".join(chance.sample(kinds + "-", chance.randint(1, len(kinds) + 1)))
            wishes.append((chance.choice(names), chance.randrange(days), marks))
    if len(names) > 1:
        pairs = [(chance.choice(("apart", "with")), *chance.sample(names, 2)) for _ in range(chance.randint(0, 8))]
    for _ in range(chance.randint(0, 8)):
        rules.append((chance.choice(names + ["all"]), some_rule(chance, 2)))
    return House(days, kinds, needs, persons, leave, wishes, rules, pairs)


class Bounds(TextTest):
    def test_the_carried_burden(self):
        for carried in (0, 1, 9, 10, 10 ** 39, 10 ** 40 - 1):
            self.assert_good(HEAD + [f"person a M 1 {carried} ."])
        house = read_house("\n".join(HEAD + ["person a M 1 " + "9" * 40 + " ."]))
        self.assertEqual(house.persons[0].carried, 10 ** 40 - 1)
        for carried in (10 ** 40, 10 ** 40 + 1, 10 ** 41, -1):
            self.assert_bad_row(HEAD, f"person a M 1 {carried} .")
        self.assert_bad_row(HEAD, "person a M 1 " + "9" * 6000 + " .")

    def test_the_most_of_a_person(self):
        for most in range(15):
            self.assert_good(HEAD + [f"person a M {most} 0 ."])
        for most in (15, 16, 20, 100, -1, "9" * 6000):
            self.assert_bad_row(HEAD, f"person a M {most} 0 .")

    def test_the_days(self):
        for days in ("0", "15", "16", "20", "99", "140", "-1", "1" * 6000):
            self.assert_line([f"days {days}", "kinds N"], 0)

    def test_the_kinds(self):
        for kinds in ("ABCDE", "AA", "ABA", "ABCA", "a", "Ab", "A-", "-", ".", "A1", "#", "?", ""):
            self.assert_line(["days 3", f"kinds {kinds}"], 1)
        for kinds in ("\u00c4", "\u0391", "\uff21", "A\u00c4"):
            self.assert_line(["days 3", f"kinds {kinds}"], 1)

    def test_a_needs_numbers(self):
        for least in range(9):
            for most in range(9):
                if least <= most:
                    self.assert_good(HEAD + [f"need 0 M {least} {most}"])
                else:
                    self.assert_bad_row(HEAD, f"need 0 M {least} {most}")
        for least, most in ((0, 9), (9, 9), (0, 10), (8, 10), (-1, 3), (0, -1), ("", 1), (0, "9" * 6000)):
            self.assert_bad_row(HEAD, f"need 0 M {least} {most}")

    def test_days_of_rows(self):
        for days in (1, 5, 10, 14):
            rows = [f"days {days}", "kinds MN", "person ann M 1 0 .", "person bob M 1 0 ."]
            for day in range(days):
                self.assert_good(rows + [f"leave ann {day}", f"wish ann {day} M"])
                self.assert_good(rows[:2] + [f"need {day} N 0 1"])
            for day in (days, days + 1, 14, 100, -1):
                self.assert_bad_row(rows[:2], f"need {day} N 0 1")
                self.assert_bad_row(rows, f"leave ann {day}")
                self.assert_bad_row(rows, f"wish ann {day} M")

    def test_eight_persons_and_one_more(self):
        rows = HEAD + [f"person {name} M 1 0 ." for name in "abcdefgh"]
        self.assert_good(rows)
        self.assert_bad_row(rows, "person i M 1 0 .")

    def test_eight_rules_and_one_more(self):
        rows = PEOPLE + ["rule all never N", "rule ann never M"] * 4
        self.assert_good(rows)
        self.assert_bad_row(rows, "rule bob never Q")

    def test_eight_pairs_and_one_more(self):
        rows = PEOPLE + ["apart ann bob", "with bob ann"] * 4
        self.assert_good(rows)
        for row in ("apart ann bob", "with ann bob"):
            self.assert_line(rows + [row], len(rows))
        self.assert_good(PEOPLE + ["with ann bob"] * 8)
        self.assert_line(PEOPLE + ["with ann bob"] * 8 + ["apart ann bob"], len(PEOPLE) + 8)

    def test_sixty_rows_of_leave_and_one_more(self):
        rows = PEOPLE + [f"leave ann {day % 5}" for day in range(60)]
        self.assert_good(rows)
        self.assert_good(rows + ["wish ann 0 M"])
        self.assert_bad_row(rows, "leave bob 0")

    def test_sixty_rows_of_wishes_and_one_more(self):
        rows = PEOPLE + [f"leave bob {day % 5}" for day in range(60)] + ["wish ann 0 M"] * 60
        self.assert_good(rows)
        self.assert_good(rows + ["rule all never N"])
        self.assert_bad_row(rows, "wish bob 0 M")

    def test_pasts(self):
        for past in (".", "-", "M", "------", "MMMMMM", "QNM-MN"):
            self.assert_good(HEAD + [f"person a M 1 0 {past}"])
        for past in ("-------", "MMMMMMM", "A", "MA", "m", "..", "M.", ".M", "#", "?", "0", ""):
            self.assert_bad_row(HEAD, f"person a M 1 0 {past}")

    def test_everything_at_its_greatest(self):
        rows = ["days 14", "kinds ZYXW"]
        rows += [f"need {day} {kind} 8 8" for day in range(14) for kind in "ZYXW"]
        rows += [f"person {name * 8} WXYZ 14 {10 ** 40 - 1} ZYXW--" for name in "abcdefgh"]
        rows += ["leave hhhhhhhh 13"] * 60 + ["wish aaaaaaaa 13 -WXYZ"] * 60
        rows += ["rule all " + " or ".join(["never A"] * 19) + " or not never B"] * 8 + ["with aaaaaaaa hhhhhhhh"] * 8
        self.assert_good(rows)


class Words(TextTest):
    def assert_no_number(self, wrong):
        self.assert_line([f"days {wrong}", "kinds MNQ"], 0)
        for row in (f"need {wrong} M 0 1", f"need 0 M {wrong} 5", f"need 0 M 0 {wrong}"):
            self.assert_bad_row(HEAD, row)
        for row in (f"person cy M {wrong} 0 .", f"person cy M 1 {wrong} .", f"leave ann {wrong}", f"wish ann {wrong} M"):
            self.assert_bad_row(PEOPLE, row)

    def test_noughts_and_signs_ahead(self):
        for wrong in ("05", "00", "+5", "-5", "5.", "5.0", "5_0", "0x5", "1e0", " 5", "", "five", "-0", "+0", "000"):
            self.assert_no_number(wrong)

    def test_figures_that_are_none(self):
        for figure in ODD_FIGURES:
            for wrong in (figure, "1" + figure, figure + "1"):
                self.assert_no_number(wrong)

    def test_a_blank_too_many(self):
        rows = WARD.split("\n")
        for line, row in enumerate(rows):
            places = [place for place, sign in enumerate(row) if sign == " "] + [0, len(row)]
            for place in places:
                wrong = row[:place] + " " + row[place:]
                self.assert_line(rows[:line] + [wrong] + rows[line + 1:], line)

    def test_other_white_space(self):
        rows = WARD.split("\n")
        for white in OTHER_WHITE:
            for line in (0, 1, 2, 6, 10, 13, 16, 19, len(rows) - 1):
                for wrong in (rows[line].replace(" ", white, 1), rows[line] + white, white + rows[line]):
                    self.assert_line(rows[:line] + [wrong] + rows[line + 1:], line)
            self.assert_line(WARD.replace("\n", white), 0)
        self.assert_line(WARD.replace("\n", "\r\n"), 0)

    def test_a_word_too_few_or_too_many(self):
        rows = WARD.split("\n")
        for line, row in enumerate(rows):
            words = row.split(" ")
            for place in range(len(words)):
                less = " ".join(words[:place] + words[place + 1:])
                if words[place:place + 1] != ["not"]:
                    self.assert_line(rows[:line] + [less] + rows[line + 1:], line)
            for more in (row + " 0", row + " M", row + " ."):
                self.assert_line(rows[:line] + [more] + rows[line + 1:], line)

    def test_a_row_without_signs(self):
        rows = WARD.split("\n")
        for line in range(len(rows) + 1):
            self.assert_line(rows[:line] + [""] + rows[line:], line)

    def test_a_line_feed_at_the_end_or_ahead(self):
        rows = WARD.split("\n")
        self.assert_line(WARD + "\n", len(rows))
        self.assert_line(WARD + "\n\n", len(rows))
        self.assert_line("\n" + WARD, 0)
        self.assert_line("days 5\n", 1)
        self.assert_line("days 5\nkinds N\n", 2)

    def test_unknown_words(self):
        for row in ("Need 0 M 0 1", "NEED 0 M 0 1", "needs 0 M 0 1", "day 3", ".", "apar ann bob", "together ann bob"):
            self.assert_bad_row(PEOPLE, row)
        for row in ("Person cy M 1 0 .", "Leave ann 0", "Wish ann 0 M", "Rule all never N", "pair ann bob"):
            self.assert_bad_row(PEOPLE, row)

    def test_every_sign_changed(self):
        rows = WARD.split("\n")
        for line, row in enumerate(rows):
            for place in range(len(row)):
                for sign in "\u00e9\u0661!~\x00":
                    wrong = row[:place] + sign + row[place + 1:]
                    self.assert_line(rows[:line] + [wrong] + rows[line + 1:], line)


class TheFirstRows(TextTest):
    def test_the_text_without_signs(self):
        self.assert_line("", 0)

    def test_a_good_row_of_days_alone(self):
        for days in range(1, 15):
            self.assert_line(f"days {days}", 1)
        self.assert_line("days 15", 0)

    def test_other_rows_first(self):
        for row in WARD.split("\n")[1:] + ["\n", " ", "days", "days ", "kinds N"]:
            self.assert_line(row, 0)
            self.assert_line(row + "\n" + WARD, 0)

    def test_other_rows_second(self):
        for row in WARD.split("\n")[:1] + WARD.split("\n")[2:] + ["", "kinds", "kinds ", "kinds N M"]:
            self.assert_line(["days 5", row], 1)
            self.assert_line(["days 5", row, "kinds MNQ"], 1)

    def test_days_or_kinds_again(self):
        rows = WARD.split("\n")
        for line in range(2, len(rows) + 1):
            for row in ("days 5", "kinds MNQ", "days 4", "kinds A"):
                self.assert_line(rows[:line] + [row] + rows[line:], line)


class Order(TextTest):
    def test_sorts_out_of_their_order(self):
        sorts = ["need 0 M 0 1", "person ann M 1 0 .", "person bob M 1 0 .", "leave ann 0", "wish ann 0 M",
                 "rule ann never N", "with ann bob"]
        self.assert_good(HEAD + sorts)
        late = {"need": "need 1 M 0 1", "person": "person cy M 1 0 .", "leave": "leave ann 1",
                "wish": "wish ann 1 M", "rule": "rule all never M"}
        ends = {"need": 1, "person": 3, "leave": 4, "wish": 5, "rule": 6}
        for word, row in late.items():
            self.assert_good(HEAD + sorts[:ends[word]] + [row])
            for many in range(ends[word] + 1, len(sorts) + 1):
                self.assert_bad_row(HEAD + sorts[:many], row)

    def test_sorts_left_out(self):
        self.assert_good(HEAD + ["need 0 M 0 1", "rule all never N"])
        self.assert_good(PEOPLE + ["with ann bob"])
        self.assert_good(PEOPLE + ["leave ann 0", "apart ann bob"])

    def test_pairs_are_one_sort(self):
        self.assert_good(PEOPLE + ["with ann bob", "apart ann bob", "with bob ann", "apart bob ann"])

    def test_needs(self):
        self.assert_good(HEAD + ["need 0 Q 0 1", "need 1 M 0 1", "need 1 N 0 1", "need 1 Q 0 1", "need 3 M 0 1"])
        for row in ("need 2 N 0 1", "need 2 N 0 2", "need 2 M 0 1", "need 1 Q 0 1", "need 0 N 0 1"):
            self.assert_bad_row(HEAD + ["need 2 N 0 1"], row)
        for row in ("need 2 Q 0 1", "need 3 M 0 1", "need 4 N 0 1"):
            self.assert_good(HEAD + ["need 2 N 0 1", row])
        for row in ("need 0 Q 0 1", "need 1 M 0 1", "need 2 N 0 1", "need 2 M 0 1"):
            self.assert_bad_row(HEAD + ["need 0 M 0 1", "need 1 N 0 1", "need 2 N 0 1"], row)

    def test_needs_in_the_order_of_the_kinds_and_not_of_the_letters(self):
        head = ["days 12", "kinds QA"]
        self.assert_good(head + ["need 2 Q 0 1", "need 2 A 0 1", "need 10 Q 0 1"])
        self.assert_bad_row(head + ["need 2 A 0 1"], "need 2 Q 0 1")
        self.assert_bad_row(head + ["need 10 Q 0 1"], "need 2 A 0 1")

    def test_leave_and_wishes_may_stand_anyhow(self):
        self.assert_good(PEOPLE + ["leave bob 4", "leave ann 0", "leave bob 4", "wish bob 4 M", "wish ann 0 N"])
        self.assert_good(PEOPLE + ["wish ann 0 M", "wish ann 0 N-", "wish ann 0 M"])


class Names(TextTest):
    def test_good_ones(self):
        for name in ("a", "z", "abcdefgh", "zzzzzzzz", "alls", "al", "person", "with", "days", "never"):
            self.assert_good(HEAD + [f"person {name} M 1 0 .", f"leave {name} 0", f"rule {name} never N"])

    def test_bad_ones(self):
        for name in ("all", "abcdefghi", "Ann", "ANN", "a1", "a_b", "a-b", ".", "-", ""):
            self.assert_bad_row(PEOPLE, f"person {name} M 1 0 .")
        for name in ("\u00e9", "\u00df", "\u0430", "\uff41", "an\u00e9"):
            self.assert_bad_row(PEOPLE, f"person {name} M 1 0 .")

    def test_told_twice(self):
        for name in ("ann", "bob"):
            self.assert_bad_row(PEOPLE, f"person {name} M 1 0 .")

    def test_a_name_that_nobody_has(self):
        for name in ("cy", "an", "annn", "Ann", "", ".", "b", "M"):
            self.assert_bad_row(PEOPLE, f"leave {name} 0")
            self.assert_bad_row(PEOPLE, f"wish {name} 0 M")
            self.assert_bad_row(PEOPLE, f"rule {name} never N")
            for word in ("apart", "with"):
                self.assert_bad_row(PEOPLE, f"{word} {name} bob")
                self.assert_bad_row(PEOPLE, f"{word} ann {name}")

    def test_all_binds_rules_alone(self):
        self.assert_good(PEOPLE + ["rule all never N"])
        self.assert_good(HEAD + ["rule all never N"])
        for row in ("leave all 0", "wish all 0 M", "apart all bob", "with ann all"):
            self.assert_bad_row(PEOPLE, row)

    def test_pairs_of_two_unlike_persons(self):
        for word in ("apart", "with"):
            self.assert_bad_row(PEOPLE, f"{word} ann ann")
            self.assert_good(PEOPLE + [f"{word} bob ann"])

    def test_names_of_a_person_further_down(self):
        self.assert_line(HEAD + ["person ann M 1 0 .", "leave bob 0", "person bob M 1 0 ."], 3)


class SignsOfTheHouse(TextTest):
    def test_kinds_of_needs(self):
        for kind in ("A", "m", "MN", "MNQ", "NM", "-", ".", "#", "?", ""):
            self.assert_bad_row(HEAD, f"need 0 {kind} 0 1")

    def test_skills(self):
        for skills in (".", "M", "MN", "NM", "QNM", "MNQ", "QM"):
            self.assert_good(HEAD + [f"person a {skills} 1 0 ."])
        for skills in ("A", "MA", "MM", "MNM", "MNQM", "m", "-", "M-", "..", "M.", ".M", "#", "?", ""):
            self.assert_bad_row(HEAD, f"person a {skills} 1 0 .")

    def test_wishes(self):
        for marks in ("M", "-", "M-", "-M", "QNM-", "-QMN"):
            self.assert_good(PEOPLE + [f"wish ann 0 {marks}"])
        for marks in ("A", "MA", "MM", "--", "M-M", "-M-", "m", ".", "M.", "#", "?", "MNQ-M", ""):
            self.assert_bad_row(PEOPLE, f"wish ann 0 {marks}")

    def test_rules_may_speak_of_other_letters(self):
        self.assert_good(PEOPLE + ["rule all never AZ", "rule ann most 2 of XYZ in 3"])

    def test_rules_that_are_none(self):
        for text in ("", "never", "never n", "never N and", "most 8 of N in 3", "( never N", "never N ", "all never N"):
            self.assert_bad_row(PEOPLE, f"rule all {text}")
        for row in ("rule", "rule ", "rule all", "rule never N", "rule ann"):
            self.assert_bad_row(PEOPLE, row)


class Refusal(TextTest):
    def test_the_first_of_several(self):
        rows = WARD.split("\n")
        for first in range(len(rows)):
            for second in range(first, len(rows)):
                wrong = list(rows)
                wrong[second] = "no row"
                wrong[first] = "need 0 Z 0 1"
                self.assert_line(wrong, first)

    def test_no_other_refusal(self):
        wrong = ["\n".join(PEOPLE + [row]) for row in ("rule all never n", "leave cy 0", "leave ann 9")]
        for text in ["", "days 5", WARD + "\n"] + wrong:
            for taken in (NoHouse, RotaError, ValueError):
                with self.assertRaises(taken):
                    read_house(text)
            try:
                read_house(text)
            except (NoRule, NoName, NoDay, NoRow, TooWide, Faulty):
                self.fail("taken by another refusal's class")
            except NoHouse:
                pass

    def test_a_refusal_changes_no_later_answer(self):
        self.assert_line(WARD + "\nno row", len(WARD.split("\n")))
        self.assertEqual(shown(read_house(WARD)), WARD)


if __name__ == "__main__":
    unittest.main()
