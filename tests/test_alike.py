"""Points 12 to 16: two rules held against each other over some marks."""

import itertools
import unittest

from rotafair.alike import alike
from rotafair.errors import RotaError, TooWide
from rotafair.rules import Both, Either, Least, Most, Never, Not, bad_days

SEVEN = "ABCDEFG"
EIGHT = "ABCDEFG-"


def rows_of(marks, many):
    return ["".join(row) for row in itertools.product(marks, repeat=many)]


def tail_of(row, reach):
    return row[max(0, len(row) - (reach - 1)):]


def parts(rule, other, row):
    """Point 14, by its words."""
    last = len(row) - 1
    one, two = bad_days(rule, "", row), bad_days(other, "", row)
    if any(day < last for day in one + two):
        return False
    return (last in one) != (last in two)


def told_by_words(rule, other, marks):
    """Point 15, by its words, row by row: good for few marks and short reaches alone."""
    reach = max(rule.reach(), other.reach())
    tails = {""}
    for many in itertools.count(1):
        rows = rows_of(marks, many)
        parting = [row for row in rows if parts(rule, other, row)]
        if parting:
            return ("parted", parting)
        let_by = [row for row in rows if not bad_days(rule, "", row) and not bad_days(other, "", row)]
        more = tails | {tail_of(row, reach) for row in let_by}
        if len(more) > 400:
            return ("wide",)
        # Rows that bring no new tail bring none when they grow longer either.
        if more == tails:
            return ("alike", sorted(tails))
        tails = more


def fewest_days(rule, other, marks, most):
    """The days of the shortest row that parts the two; every row ahead of its last day is let by by both."""
    rows = [""]
    for days in range(1, most + 1):
        rows = [row + mark for row in rows for mark in marks]
        if any(parts(rule, other, row) for row in rows):
            return days
        rows = [row for row in rows if not bad_days(rule, "", row) and not bad_days(other, "", row)]
    return None


def shorter_than(days):
    """A rule that finds just the days bad that have at least so many marks."""
    return Least(7, "A", days)


def one_way_rule(start, words):
    """A rule that lets by what is shorter than start, then start, then what goes on by these words alone."""
    rule = Either(shorter_than(len(start)), Both(shorter_than(len(start) + 1), Not(Never(start))))
    for word in words:
        rule = Either(rule, Not(Never(word)))
    return rule


class AlikeTest(unittest.TestCase):
    def assert_alike(self, rule, other, marks, tails=None):
        for one, two in ((rule, other), (other, rule)):
            told = alike(one, two, marks)
            self.assertIs(type(told), tuple)
            self.assertEqual(told[0], "alike", (rule.text(), other.text(), told))
            self.assertEqual(len(told), 2)
            self.assertIs(type(told[1]), list)
            self.assert_closed(one, two, marks, told[1])
            if tails is not None:
                self.assertEqual(told[1], tails)

    def assert_closed(self, rule, other, marks, tails):
        """Point 16, and the form of the list."""
        reach = max(rule.reach(), other.reach())
        self.assertEqual(tails, sorted(set(tails)))
        self.assertEqual(tails[0], "")
        for tail, mark in itertools.product(tails, marks):
            bad = rule.bad(tail + mark)
            self.assertIs(other.bad(tail + mark), bad)
            if not bad:
                self.assertIn(tail_of(tail + mark, reach), tails)

    def assert_parted(self, rule, other, marks, days):
        for one, two in ((rule, other), (other, rule)):
            told = alike(one, two, marks)
            self.assertIs(type(told), tuple)
            self.assertEqual(told[0], "parted", (rule.text(), other.text()))
            self.assertEqual(len(told), 2)
            self.assertIs(type(told[1]), str)
            self.assertEqual(len(told[1]), days, told)
            self.assertLessEqual(set(told[1]), set(marks))
            self.assertTrue(parts(one, two, told[1]), told)

    def assert_too_wide(self, rule, other, marks):
        for one, two in ((rule, other), (other, rule)):
            with self.assertRaises(TooWide):
                alike(one, two, marks)


class WrittenUnlike(AlikeTest):
    A, B, C = Never("N-"), Most(1, "N", 3), Least(1, "#", 2)

    def test_turned_twice(self):
        for rule in (self.A, self.B, self.C, Both(self.A, self.C)):
            self.assert_alike(rule, Not(Not(rule)), "NM-")
        self.assert_alike(Not(Both(self.A, self.B)), Either(Not(self.A), Not(self.B)), "NM-")
        self.assert_alike(Not(Either(self.A, self.B)), Both(Not(self.A), Not(self.B)), "NM-")

    def test_exchanged(self):
        for joined in (Both, Either):
            self.assert_alike(joined(self.A, self.B), joined(self.B, self.A), "NM-")
            self.assert_alike(joined(joined(self.A, self.B), self.C), joined(self.A, joined(self.B, self.C)), "NM-")

    def test_dealt_out(self):
        for outer, inner in ((Both, Either), (Either, Both)):
            one = outer(self.A, inner(self.B, self.C))
            other = inner(outer(self.A, self.B), outer(self.A, self.C))
            self.assert_alike(one, other, "NM-")

    def test_taken_twice(self):
        for rule in (self.A, self.B, self.C):
            self.assert_alike(rule, rule, "NM-")
            self.assert_alike(rule, Both(rule, rule), "NM-")
            self.assert_alike(Either(rule, rule), rule, "NM-")
            self.assert_alike(rule, Both(rule, Either(rule, self.A)), "NM-")

    def test_other_words_for_the_same(self):
        self.assert_alike(Never("NN"), Most(1, "N", 2), "NM-")
        self.assert_alike(Never("---"), Least(1, "#", 3), "NM-")
        self.assert_alike(Never("N?"), Never("N#"), "NM")
        self.assert_alike(Most(0, "N", 1), Never("N"), "NM-")

    def test_alike_over_some_marks_alone(self):
        self.assert_alike(Never("#"), Never("N"), "N-")
        self.assert_parted(Never("#"), Never("N"), "NM-", 1)
        self.assert_alike(Never("Q"), Never("QQ"), "NM-")
        self.assert_parted(Never("Q"), Never("QQ"), "NMQ", 1)

    def test_alike_though_they_differ_behind_a_bad_day(self):
        # Of "NM" the two tell otherwise, but no row has it without an N that both find bad.
        self.assert_alike(Never("N"), Both(Never("N"), Never("NM")), "NM", ["", "M"])


class Parted(AlikeTest):
    def test_by_one_day(self):
        self.assert_parted(Never("N"), Never("M"), "NM", 1)
        self.assert_parted(Never("N"), Never("NN"), "N", 1)
        self.assert_parted(Least(1, "#", 1), Least(1, "#", 2), "N-", 1)
        self.assert_parted(Never("N"), Not(Never("N")), "-", 1)

    def test_by_several_days(self):
        for many in range(2, 8):
            self.assert_parted(Never("N" * many), Most(7, "N", 7), "N", many)
            self.assert_parted(Never("N" * many), Never("N" * (many - 1)), "N-", many - 1)
        self.assert_parted(Most(2, "N", 5), Most(2, "N", 4), "NM-", 5)

    def test_a_day_that_both_find_bad_goes_no_further(self):
        # "NNN" would part them, but both find the day ahead of it bad.
        self.assert_alike(Never("NN"), Both(Never("NN"), Never("NNN")), "NM-")
        self.assert_alike(Never("N"), Both(Never("N"), Never("NM")), "NM-")

    def test_by_more_days_than_the_reach(self):
        words = ["AB", "BC", "CD", "DE", "EF", "FG"]
        one, other = one_way_rule("A", words), one_way_rule("A", words[:-1])
        self.assertEqual(max(one.reach(), other.reach()), 2)
        self.assert_parted(one, other, SEVEN, 7)
        self.assertEqual(alike(one, other, SEVEN), ("parted", "ABCDEFG"))
        self.assert_alike(one, one, SEVEN, ["", "A", "B", "C", "D", "E", "F", "G"])

    def test_by_many_days(self):
        # Every four marks are met once, so there is one way through, and no shorter one.
        way, words = "AAAA", []
        while len(words) < 15:
            way += "A" if way[-3:] + "B" in way else "B"
            words.append(way[-5:])
        self.assertEqual(len({way[place:place + 4] for place in range(16)}), 16)
        one, other = one_way_rule("AAAA", words), one_way_rule("AAAA", words[:-1])
        self.assertEqual(fewest_days(one, other, "AB", 30), 19)
        self.assert_parted(one, other, "AB", 19)
        self.assertEqual(alike(one, other, "AB"), ("parted", way))


class Tails(AlikeTest):
    def test_a_reach_of_one(self):
        self.assert_alike(Never("N"), Never("N"), "NM-", [""])
        self.assert_alike(Never("N"), Most(0, "N", 1), "N", [""])
        self.assert_alike(Not(Never("N")), Least(1, "N", 1), "NM-", [""])

    def test_a_reach_of_two(self):
        self.assert_alike(Never("NN"), Most(1, "N", 2), "NM-", ["", "-", "M", "N"])
        self.assert_alike(Both(Never("NN"), Never("M")), Both(Never("M"), Never("NN")), "NM-", ["", "-", "N"])

    def test_a_reach_of_three(self):
        expected = ["", "-", "--", "-N", "N", "N-"]
        self.assert_alike(Both(Never("NN"), Never("N?N")), Most(1, "N", 3), "N-", expected)

    def test_unlike_reaches(self):
        self.assert_alike(Never("N"), Both(Never("N"), Never("?N")), "NM-", ["", "-", "M"])
        self.assert_alike(Never("N"), Both(Never("N"), Least(0, "N", 3)), "N-", ["", "-", "--"])
        self.assert_alike(Never("Q"), Never("QQQ"), "NM", ["", "M", "MM", "MN", "N", "NM", "NN"])

    def test_a_text_shorter_than_the_reach_is_a_tail_of_its_own(self):
        # By Not(Least) the first days are bad as long as there are too few marks.
        rule = Not(Least(1, "N", 2))
        self.assert_alike(rule, Not(Not(rule)), "N-", [""])

    def test_nothing_is_let_by_but_the_row_without_days(self):
        self.assert_alike(Never("?"), Both(Never("#"), Never("-")), "NM-", [""])
        self.assert_alike(Both(Never("?"), Never("???")), Never("?"), "NM-", [""])

    def test_each_tail_of_some_marks(self):
        rule = Least(0, "A", 3)
        expected = sorted([""] + rows_of("CA-", 1) + rows_of("CA-", 2))
        self.assert_alike(rule, Not(Not(rule)), "CA-", expected)

    def test_one_mark(self):
        self.assert_alike(Never("--"), Most(1, "-", 2), "-", ["", "-"])
        self.assert_alike(Never("Q------"), Least(0, "A", 7), "-", ["-" * many for many in range(7)])

    def test_eight_marks(self):
        self.assert_alike(Never("HH"), Most(1, "H", 2), "ABCDEFGH", [""] + list("ABCDEFGH"))

    def test_the_list_is_the_askers_own(self):
        rule = Never("NN")
        first = alike(rule, rule, "N-")
        first[1].append("M")
        second = alike(rule, rule, "N-")
        self.assertEqual(second, ("alike", ["", "-", "N"]))
        second[1].clear()
        self.assertEqual(alike(rule, rule, "N-"), ("alike", ["", "-", "N"]))
        self.assertEqual(rule.text(), "never NN")


class AgainstTheWords(AlikeTest):
    def test_every_two_of_many_rules(self):
        plain = [
            Never("N"), Never("N-"), Never("?N"), Never("#-N"), Most(0, "-", 2), Most(1, "N", 2), Most(1, "#", 3),
            Least(1, "#", 2), Least(2, "N", 3), Least(1, "-", 1),
        ]
        made = [
            Both(plain[1], plain[5]), Either(plain[2], plain[7]), Not(plain[4]), Not(Least(2, "N", 2)),
            Both(Either(plain[0], plain[3]), Not(plain[9])), Either(Not(plain[6]), plain[8]),
        ]
        outcomes = {"alike": 0, "parted": 0}
        for (rule, other), marks in itertools.product(itertools.product(plain + made, repeat=2), ("N-", "NM")):
            expected = told_by_words(rule, other, marks)
            told = alike(rule, other, marks)
            self.assertEqual(told[0], expected[0], (rule.text(), other.text(), marks))
            if told[0] == "alike":
                self.assertEqual(told[1], expected[1])
            else:
                self.assertIn(told[1], expected[1])
            outcomes[told[0]] += 1
        self.assertGreater(outcomes["alike"], 30)
        self.assertGreater(outcomes["parted"], 100)


class TooManyTails(AlikeTest):
    def test_just_four_hundred(self):
        # 1 + 7 + 49 + 343 texts of at most three marks.
        rule = Least(0, "A", 4)
        self.assert_alike(rule, Not(Not(rule)), SEVEN)
        self.assertEqual(len(alike(rule, rule, SEVEN)[1]), 400)

    def test_just_four_hundred_by_a_longer_reach(self):
        rule = Both(shorter_than(4), Least(0, "A", 5))
        self.assert_alike(rule, shorter_than(4), SEVEN)
        self.assertEqual(len(alike(rule, rule, SEVEN)[1]), 400)

    def test_one_more(self):
        # One row of four marks is let by, and is a tail of its own.
        rule = Both(Either(shorter_than(4), Not(Never("ABCD"))), Least(0, "A", 5))
        self.assertEqual(bad_days(rule, "", "ABCD"), [])
        self.assert_too_wide(rule, Not(Not(rule)), SEVEN)
        self.assert_alike(rule, Not(Not(rule)), SEVEN[:6])

    def test_far_more(self):
        for reach in range(4, 8):
            self.assert_too_wide(Least(0, "A", reach), Never("Q"), EIGHT)
        self.assert_too_wide(Most(6, "A", 7), Not(Not(Most(6, "A", 7))), "ABC")

    def test_a_row_that_parts_goes_ahead(self):
        # Over eight marks there are 9, 73, 585 tails of rows of at most one, two, three marks.
        wide = Least(0, "A", 7)
        for word in ("A", "AB", "ABC"):
            self.assert_parted(wide, Both(wide, Never(word)), EIGHT, len(word))
        for word in ("ABCD", "ABCDE", "ABCDEF", "ABCDEFG"):
            self.assert_too_wide(wide, Both(wide, Never(word)), EIGHT)

    def test_a_row_that_parts_where_there_are_just_four_hundred(self):
        wide = Least(0, "A", 4)
        self.assert_parted(wide, Both(wide, Never("ABCD")), SEVEN, 4)
        self.assert_too_wide(wide, Both(wide, Never("ABCD")), EIGHT)

    def test_tails_are_counted_and_not_rows(self):
        # There are 8 ** n rows of n days, but nine tails.
        rule = Never("ZZ")
        self.assert_alike(rule, Not(Not(rule)), EIGHT)
        self.assertEqual(len(alike(rule, rule, EIGHT)[1]), 9)

    def test_the_refusal(self):
        with self.assertRaises(RotaError):
            alike(Least(0, "A", 7), Least(0, "A", 7), EIGHT)


if __name__ == "__main__":
    unittest.main()
