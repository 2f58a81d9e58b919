"""Points 51 and 52: the desk, its rows, answers and refusals."""

import random
import unittest

from rotafair.costs import EvenCosts, total_of
from rotafair.deeds import make, mend, onward, swapped
from rotafair.desk import Desk
from rotafair.errors import Faulty, NoDay, NoHouse, NoName, NoRow, RotaError, TooWide
from rotafair.houses import absent
from rotafair.looks import faults, loads, over
from rotafair.papers import Found
from rotafair.texts import read_house, shown
from small_houses import BIG, some_house, some_rota

HOUSE = """days 3
kinds MN
need 0 M 1 2
need 1 M 1 1
need 1 N 0 1
need 2 M 1 1
person ann MN 2 5 -N
person bob M 3 0 .
leave bob 2
wish ann 0 N-"""
GOOD = "ann --M\nbob MM-"
EMPTY = "days 2\nkinds M\nneed 0 M 0 1"
WIDE = "days 1\nkinds AB\nneed 0 A 1 1\nneed 0 B 0 1\n" + "\n".join(
    f"person {name} AB 3 0 ." for name in ("ann", "bob", "cy", "dee", "eve", "fay")
) + "\nrule all never Z"
WIDE_ROTA = "ann A\nbob -\ncy -\ndee -\neve -\nfay -"


def desk_with(house=HOUSE, rota=GOOD):
    desk = Desk()
    if house is not None:
        desk.say("house\n" + house)
        if rota is not None:
            desk.say("lay\n" + rota)
    return desk


class Rows(unittest.TestCase):
    def refused(self, kind, desk, row):
        """The row is refused, and all that the desk tells is as it was."""
        before = self.all_told(desk)
        with self.assertRaises(RotaError) as caught:
            desk.say(row)
        self.assertIs(type(caught.exception), kind, row)
        self.assertEqual(self.all_told(desk), before)
        return caught.exception

    def all_told(self, desk):
        told = []
        for row in ("show", "loads", "over 0", "look\n" + GOOD, "look\nann MMM\nbob MMM", "look\n"):
            try:
                told.append(desk.say(row))
            except NoRow:
                told.append(None)
        return told

    def faulty(self, fault, desk, row):
        told = self.refused(Faulty, desk, row)
        self.assertEqual((told.day, told.word, told.who, told.which), fault)


class Answers(Rows):
    def test_house(self):
        desk = Desk()
        self.assertEqual(desk.say("house\n" + HOUSE), "ok")
        self.refused(NoRow, desk, "show")
        self.assertEqual(desk.say("look\n" + GOOD), "")

    def test_a_new_house_takes_the_rota_away(self):
        desk = desk_with()
        self.assertEqual(desk.say("show"), GOOD)
        self.assertEqual(desk.say("house\n" + HOUSE), "ok")
        self.refused(NoRow, desk, "show")

    def test_make(self):
        desk = desk_with(rota=None)
        self.assertEqual(desk.say("make"), "made 80")
        self.assertEqual(desk.say("show"), GOOD)
        desk.say("lay\nann -NM\nbob MM-")
        self.assertEqual(desk.say("make"), "made 80")
        self.assertEqual(desk.say("show"), GOOD)

    def test_make_where_there_is_none(self):
        for text in (HOUSE.replace("leave bob 2", "leave ann 2\nleave bob 2"), HOUSE + "\nrule all never M"):
            desk = desk_with(text, None)
            self.assertEqual(desk.say("make"), "none")
            self.refused(NoRow, desk, "show")
            self.assertEqual(desk.say("look\nann ---\nbob ---"), "0 need M 0\n1 need M 0\n2 need M 0")

    def test_make_by_the_book(self):
        desk = desk_with(HOUSE + "\nrule bob never MM", None)
        self.assertEqual(desk.say("make"), "made 100")
        self.assertEqual(desk.say("loads"), "7 1")

    def test_show(self):
        self.assertEqual(desk_with().say("show"), GOOD)
        self.assertEqual(desk_with(EMPTY, "").say("show"), "")

    def test_lay(self):
        desk = desk_with(rota=None)
        self.assertEqual(desk.say("lay\n" + GOOD), "ok")
        self.assertEqual(desk.say("show"), GOOD)
        other = "ann -NM\nbob MM-"
        self.assertEqual(desk.say("lay\n" + other), "ok")
        self.assertEqual(desk.say("show"), other)

    def test_look(self):
        desk = desk_with()
        self.assertEqual(desk.say("look\n" + GOOD), "")
        self.assertEqual(desk.say("look\nann MNM\nbob --N"), "\n".join([
            "1 need M 0", "2 skill bob N", "2 leave bob N", "2 need N 1", "2 most ann 3",
        ]))
        self.assertEqual(desk.say("show"), GOOD)
        bound = desk_with(HOUSE + "\nrule all never Z\nrule ann never -N\nwith bob ann", None)
        self.assertEqual(bound.say("look\nann -NM\nbob MM-"), "0 pair bob 0\n1 rule ann 1\n1 pair bob 0")
        self.refused(NoRow, bound, "show")

    def test_swap(self):
        desk = desk_with(HOUSE.replace("leave bob 2\n", ""))
        self.assertEqual(desk.say("swap ann bob 2"), "ok")
        self.assertEqual(desk.say("show"), "ann ---\nbob MMM")
        self.assertEqual(desk.say("swap bob ann 0"), "ok")
        self.assertEqual(desk.say("show"), "ann M--\nbob -MM")
        self.assertEqual(desk.say("swap bob bob 1"), "ok")
        self.assertEqual(desk.say("show"), "ann M--\nbob -MM")

    def test_sick(self):
        desk = desk_with()
        self.assertEqual(desk.say("sick 1 bob 1"), "changed 2")
        self.assertEqual(desk.say("show"), "ann -MM\nbob M--")
        # Bob is away from then on: so nobody else can come on day 1.
        self.faulty((1, "leave", "bob", "M"), desk, "lay\n" + GOOD)
        self.assertEqual(desk.say("sick 1 ann 1"), "none")
        self.assertEqual(desk.say("show"), "ann -MM\nbob M--")
        self.assertEqual(desk.say("look\nann MMM\nbob ---"), "2 most ann 3")

    def test_sick_without_names_and_with_several(self):
        desk = desk_with()
        self.assertEqual(desk.say("sick 0"), "changed 0")
        self.assertEqual(desk.say("sick 2 bob 2 bob 2 bob 2"), "changed 0")
        self.assertEqual(desk.say("sick 0 bob 1 bob 0"), "none")
        self.assertEqual(desk.say("sick 0 bob 1 ann 0"), "changed 2")
        self.assertEqual(desk.say("show"), "ann -MM\nbob M--")

    def test_sick_that_is_none_leaves_nobody_away(self):
        desk = desk_with()
        self.assertEqual(desk.say("sick 2 ann 2"), "none")
        self.assertEqual(desk.say("look\n" + GOOD), "")
        self.assertEqual(desk.say("show"), GOOD)

    def test_next(self):
        desk = desk_with()
        self.assertEqual(desk.say("next"), "ok")
        self.refused(NoRow, desk, "show")
        self.assertEqual(desk.say("look\nann --M\nbob MMM"), "2 need M 2")
        self.assertEqual(desk.say("lay\nann ---\nbob MMM"), "ok")
        self.assertEqual(desk.say("loads"), "6 5")
        self.assertEqual(desk.say("next"), "ok")
        self.assertEqual(desk.say("make"), "made 98")
        self.assertEqual(desk.say("loads"), "7 7")

    def test_next_carries_the_past(self):
        desk = desk_with("days 2\nkinds M\nneed 0 M 0 1\nneed 1 M 0 1\nperson ann M 2 0 .\nrule ann never MM", "ann -M")
        self.assertEqual(desk.say("next"), "ok")
        self.assertEqual(desk.say("look\nann M-"), "0 rule ann 0")

    def test_loads(self):
        self.assertEqual(desk_with().say("loads"), "6 2")
        great = HOUSE.replace("person bob M 3 0 .", f"person bob M 3 {BIG} .")
        self.assertEqual(desk_with(great).say("loads"), f"6 {10 ** 40 + 1}")
        self.assertEqual(desk_with(EMPTY, "").say("loads"), "")

    def test_over(self):
        desk = desk_with()
        for level, expected in (
            ("0", 8), ("1", 6), ("2", 4), ("5", 1), ("6", 0), ("7", 0), ("-1", 10), ("-10", 28), ("9" * 40, 0),
            ("-" + "9" * 40, 2 * BIG + 8), ("-" + "1" + "0" * 39, 2 * 10 ** 39 + 8),
        ):
            self.assertEqual(desk.say("over " + level), str(expected))

    def test_a_house_without_persons(self):
        desk = desk_with(EMPTY, None)
        self.assertEqual(desk.say("look\n"), "")
        self.assertEqual(desk.say("lay\n"), "ok")
        self.assertEqual((desk.say("show"), desk.say("loads"), desk.say("over -3")), ("", "", "0"))
        self.assertEqual((desk.say("sick 1"), desk.say("make"), desk.say("next")), ("changed 0", "made 0", "ok"))
        self.refused(NoRow, desk, "show")
        for row in ("lay", "look", "lay\n\n", "look\n ", "lay\nann --", "lay\n."):
            self.refused(NoRow, desk, row)
        self.assertEqual(desk.say("make"), "made 0")
        self.refused(NoName, desk, "swap ann bob 0")
        self.refused(NoName, desk, "sick 0 ann 0")
        lacking = desk_with(EMPTY.replace("0 M 0 1", "0 M 1 1"), None)
        self.assertEqual((lacking.say("make"), lacking.say("look\n")), ("none", "0 need M 0"))
        self.faulty((0, "need", "M", 0), lacking, "lay\n")

    def test_two_desks(self):
        one, other = desk_with(), Desk()
        self.refused(NoRow, other, "show")
        other.say("house\n" + EMPTY)
        other.say("make")
        self.assertEqual((one.say("show"), other.say("show")), (GOOD, ""))

    def test_answers_are_texts(self):
        desk = desk_with()
        for row in ("house\n" + HOUSE, "make", "show", "lay\n" + GOOD, "look\n" + GOOD, "swap ann ann 0", "sick 0",
                    "loads", "over 1", "next"):
            self.assertIs(type(desk.say(row)), str)


class RowsThatAreNone(Rows):
    def test_what_is_no_text(self):
        for desk in (Desk(), desk_with()):
            for row in (None, 7, True, ["make"], ("show",), b"show", {"show": 1}, 1.5):
                self.refused(NoRow, desk, row)

    def test_other_words(self):
        for desk in (Desk(), desk_with()):
            for row in ("", " ", "x", "Make", "MAKE", "made", "makes", "mak", "undo", "show ann", "make make", "make 1",
                        "next 1", "loads ann", "loads 0", "show show", "house", "lay", "look", ".", "days 3", "sick",
                        "over", "swap", "ann --M", "\u00a0", "make\u00a0", "make\t", "\tmake", "make\r"):
                self.refused(NoRow, desk, row)

    def test_blanks(self):
        desk = desk_with()
        for row in ("make", "show", "next", "loads", "over 1", "swap ann bob 0", "sick 0", "sick 0 ann 2"):
            for wrong in (" " + row, row + " ", "  " + row, row + "  "):
                self.refused(NoRow, desk, wrong)
            if " " in row:
                self.refused(NoRow, desk, row.replace(" ", "  ", 1))
                self.refused(NoRow, desk, row.replace(" ", "\t"))
                self.refused(NoRow, desk, row.replace(" ", ""))
        for row in ("swap ann  0", "swap  bob 0", "sick 0  1", "sick  ann 1", "over  ", "sick 0 ann 1 "):
            self.refused(NoRow, desk, row)

    def test_words_too_few_or_too_many(self):
        desk = desk_with()
        for row in ("over 1 2", "swap ann", "swap ann bob", "swap ann bob 0 0", "swap ann bob 0 ann", "sick 0 ann",
                    "sick ann", "sick ann 0", "sick 0 ann 0 bob", "sick 0 0 ann", "sick 0 ann bob", "swap 0 ann bob"):
            self.refused(NoRow, desk, row)

    def test_line_feeds(self):
        desk = desk_with()
        for row in ("make", "show", "next", "loads", "over 1", "swap ann bob 0", "sick 0", "sick 0 ann 2", "x", ""):
            for wrong in (row + "\n", "\n" + row, row + "\n\n", row + "\n" + GOOD, row + "\n" + HOUSE):
                self.refused(NoRow, desk, wrong)
        for row in ("over\n1", "swap ann\nbob 0", "sick 0\nann 2", "swap an\nn bob 0", "sick 0 ann\n 2"):
            self.refused(NoRow, desk, row)
        for word in ("house", "lay", "look"):
            for head in (word + " ", " " + word, word + " ann", word.upper(), word + "s", word + "\r"):
                self.refused(NoRow, desk, head + "\n" + (HOUSE if word == "house" else GOOD))
        self.refused(NoRow, desk, "house " + HOUSE)
        self.refused(NoRow, desk, "lay " + GOOD)

    def test_days(self):
        desk = desk_with()
        for day in ("00", "01", "-0", "-1", "+1", "100", "000", "999", "1.0", "x", "1x", "\u0661", "\u00b2", "1_0"):
            self.refused(NoRow, desk, "swap ann bob " + day)
            self.refused(NoRow, desk, "swap dee bob " + day)
            self.refused(NoRow, desk, "sick " + day)
            self.refused(NoRow, desk, "sick 0 ann " + day)
            self.refused(NoRow, desk, f"sick 9 dee {day} ann 1")
        for day in ("3", "10", "99"):
            self.refused(NoDay, desk, "swap ann bob " + day)
            self.refused(NoDay, desk, "sick " + day)
            self.refused(NoDay, desk, "sick 0 ann " + day)

    def test_levels(self):
        desk = desk_with()
        for level in ("00", "01", "-0", "-00", "-01", "--1", "-", "+1", "1-", "1" * 41, "-" + "1" * 41, "0" * 40, "x",
                      "1.0", "\u0661", "1_0", "0x1", "-x"):
            self.refused(NoRow, desk, "over " + level)

    def test_rows_that_need_what_is_not_there(self):
        for row in ("show", "swap ann bob 0", "sick 0", "sick 0 ann 1", "next", "loads", "over 1", "swap x y 99"):
            self.refused(NoRow, Desk(), row)
            self.refused(NoRow, desk_with(rota=None), row)
        for row in ("make", "lay\n" + GOOD, "look\n" + GOOD, "lay\n", "look\n"):
            self.refused(NoRow, Desk(), row)

    def test_rotas_that_are_not_written_as_told(self):
        desk = desk_with()
        for rota in (
            "", "\n", "ann --M", "bob MM-", "bob MM-\nann --M", GOOD + "\n", "\n" + GOOD, GOOD + "\ncy ---",
            GOOD + "\nbob MM-", "ann --M\n\nbob MM-", "ann --M\nbob MM", "ann --M\nbob MM--", "ann --M\nbob ",
            "ann --M\nbob", "ann --M\nbob  MM-", "ann --M\nbob MM- ", " ann --M\nbob MM-", "ann --M\nbob MMQ",
            "ann --M\nbob MMm", "ann --M\nbob MM.", "ann --M\nbob MM#", "ann --M\nbob MM?", "Ann --M\nbob MM-",
            "ann --M\nbo MM-", "ann --M\nbobb MM-", "ann --M\r\nbob MM-", "ann --M\tbob MM-", "ann --M bob MM-",
            "ann --M\nbob M M-", "ann\n--M\nbob\nMM-", "ann:--M\nbob:MM-", "ann --M\nbob M\u00a0-",
        ):
            for word in ("lay", "look"):
                self.refused(NoRow, desk, word + "\n" + rota)

    def test_no_house(self):
        for desk in (Desk(), desk_with()):
            for text, line in (
                ("", 0), ("\n", 0), ("days 3", 1), (HOUSE + "\n", 10), (HOUSE + "\nleave dee 0", 10),
                ("days 15\nkinds M", 0), (HOUSE.replace("need 1 M 1 1", "need 1 M 2 1"), 3), (" " + HOUSE, 0),
            ):
                self.assertEqual(self.refused(NoHouse, desk, "house\n" + text).line, line)

    def test_faulty_rotas_are_not_laid(self):
        desk = desk_with()
        self.faulty((0, "need", "M", 0), desk, "lay\nann --M\nbob -M-")
        self.faulty((2, "leave", "bob", "M"), desk, "lay\nann ---\nbob MMM")
        self.faulty((2, "most", "ann", 3), desk_with(HOUSE, None), "lay\nann MNM\nbob -M-")

    def test_refusals_of_swap(self):
        desk = desk_with()
        for row in ("swap dee ann 0", "swap ann dee 0", "swap dee eve 99", "swap ann dee 99", "swap all ann 0",
                    "swap Ann bob 0", "swap an\tn bob 0", "swap 0 1 2", "swap ann \u00e4 3"):
            self.refused(NoName, desk, row)
        self.refused(NoDay, desk, "swap ann bob 3")
        self.faulty((2, "leave", "bob", "M"), desk, "swap ann bob 2")

    def test_refusals_of_sick(self):
        desk = desk_with()
        for row, kind in (
            ("sick 3", NoDay), ("sick 3 dee 9", NoDay), ("sick 1 dee 1", NoName), ("sick 1 ann 0", NoDay),
            ("sick 1 dee 0 ann 0", NoName), ("sick 1 ann 0 dee 1", NoDay), ("sick 1 ann 1 dee 1", NoName),
            ("sick 0 all 0", NoName), ("sick 0 0 0", NoName), ("sick 1 ann 3", NoDay),
        ):
            self.refused(kind, desk, row)

    def test_too_wide(self):
        desk = desk_with(WIDE, WIDE_ROTA)
        self.refused(TooWide, desk, "make")
        self.refused(TooWide, desk, "sick 0")
        self.refused(NoDay, desk, "sick 1")
        self.refused(NoName, desk, "sick 0 x 0")
        self.assertEqual(desk.say("show"), WIDE_ROTA)
        self.assertEqual(desk.say("sick 0 ann 0"), "changed 2")
        self.assertEqual(desk.say("make"), "made 1")

    def test_no_refusal_but_these(self):
        """Rows by chance, of signs that rows are made of."""
        dice = random.Random(52)
        words = ["make", "show", "lay", "look", "swap", "sick", "next", "loads", "over", "house", "ann", "bob"]
        words += ["0", "1", "2", "3", "-1", "", "\n", "\n" + GOOD, "\n" + HOUSE, "99", "100"]
        desk = desk_with()
        for turn in range(3000):
            row = " ".join(dice.choice(words) for number in range(dice.randint(1, 5)))
            try:
                self.assertIs(type(desk.say(row.replace(" \n", "\n"))), str)
            except (NoRow, NoHouse, NoName, NoDay, Faulty):
                pass


class LongTalks(Rows):
    """A desk beside a house and a rota that are kept by hand."""

    def lines(self, house, rota):
        return "\n".join(f"{person.name} {row}" for person, row in zip(house.persons, rota))

    def expected(self, house, rota, deed):
        try:
            return deed(house, rota)
        except RotaError as error:
            return error

    def test_by_chance(self):
        dice = random.Random(51)
        done = {"make": 0, "swap": 0, "sick": 0, "next": 0, "lay": 0}
        for turn in range(150):
            house, rota, desk = some_house(dice, dice.randint(1, 4), "MN", dice.randint(1, 3)), None, Desk()
            desk.say("house\n" + shown(house))
            for step in range(25):
                house, rota = self.step(dice, desk, house, rota, done)
                if rota is None:
                    self.refused(NoRow, desk, "show")
                else:
                    self.assertEqual(desk.say("show"), self.lines(house, rota))
                    self.assertEqual(desk.say("loads"), " ".join(str(load) for load in loads(house, rota)))
                    level = dice.randint(-3, 9)
                    self.assertEqual(desk.say(f"over {level}"), str(over(house, rota, level)))
        self.assertGreater(min(done.values()), 30, done)

    def step(self, dice, desk, house, rota, done):
        word = dice.choice(["make", "lay"] if rota is None else ["make", "lay", "swap", "sick", "sick", "next"])
        names = [dice.choice(house.persons).name for number in range(2)]
        days = [dice.randrange(house.days + 1) for number in range(3)]
        if word == "make":
            answer = make(house)
            if not isinstance(answer, Found):
                self.assertEqual(desk.say("make"), "none")
                return house, rota
            self.assertEqual(desk.say("make"), f"made {answer.total}")
            rows = [line.split(" ")[1] for line in desk.say("show").split("\n")]
            self.assertEqual((faults(house, rows), total_of(house, EvenCosts(house), rows)), ([], answer.total))
            done["make"] += 1
            return house, rows
        if word == "lay":
            told = some_rota(dice, house)
            wrong = faults(house, told)
            self.assertEqual(desk.say("look\n" + self.lines(house, told)),
                             "\n".join(" ".join(str(part) for part in fault) for fault in wrong))
            if wrong:
                self.faulty(wrong[0], desk, "lay\n" + self.lines(house, told))
                return house, rota
            self.assertEqual(desk.say("lay\n" + self.lines(house, told)), "ok")
            done["lay"] += 1
            return house, told
        if word == "next":
            self.assertEqual(desk.say("next"), "ok")
            done["next"] += 1
            return onward(house, rota), None
        if word == "swap":
            told = self.expected(house, rota, lambda house, rota: swapped(house, rota, names[0], names[1], days[0]))
            row = f"swap {names[0]} {names[1]} {days[0]}"
            if isinstance(told, RotaError):
                self.refused(type(told), desk, row)
                return house, rota
            self.assertEqual(desk.say(row), "ok")
            done["swap"] += 1
            return house, told
        away = list(zip(names, days[1:]))[:dice.randint(0, 2)]
        told = self.expected(house, rota, lambda house, rota: mend(house, rota, days[0], away))
        row = " ".join([f"sick {days[0]}"] + [f"{name} {day}" for name, day in away])
        if isinstance(told, RotaError):
            self.refused(type(told), desk, row)
            return house, rota
        if not isinstance(told, Found):
            self.assertEqual(desk.say(row), "none")
            return house, rota
        self.assertEqual(desk.say(row), f"changed {told.total}")
        rows = [line.split(" ")[1] for line in desk.say("show").split("\n")]
        gone = absent(house, away)
        changes = sum(x != y for x, y in zip("".join(rows), "".join(rota)))
        self.assertEqual((faults(gone, rows), changes), ([], told.total))
        done["sick"] += 1
        return gone, rows

    def test_the_text_of_a_house_is_kept_as_it_is_read(self):
        house = read_house(HOUSE)
        self.assertEqual(shown(house), HOUSE)


if __name__ == "__main__":
    unittest.main()
