"""Points 4 to 8: what a rule is asked and tells, and the bad days of a row."""

import itertools
import unittest

from rotafair.rules import Both, Either, Least, Most, Never, Not, Rule, bad_days, fits

LETTERS = "ABCDEFGHIJKLMNOPQRSTUVWXYZ"


def texts(marks, longest):
    for many in range(longest + 1):
        for text in itertools.product(marks, repeat=many):
            yield "".join(text)


def plain_rules():
    return [
        Never("N"), Never("#-"), Never("-?N"), Never("N-?#"),
        Most(0, "N", 1), Most(1, "#", 2), Most(2, "N-", 3), Most(1, "-", 4),
        Least(1, "#", 1), Least(1, "-", 2), Least(2, "#", 3), Least(2, "MN", 4),
    ]


def made_rules():
    plain = plain_rules()
    twice = Never("NM")
    return [
        Both(plain[0], plain[2]), Either(plain[9], plain[2]), Not(plain[6]),
        Both(Not(plain[1]), Either(plain[5], plain[11])),
        Either(Both(plain[3], Not(plain[8])), Not(Not(plain[10]))),
        Not(Both(Either(plain[0], plain[7]), Either(plain[4], plain[9]))),
        Both(twice, twice), Either(twice, Not(twice)), Both(Not(twice), Either(twice, twice)),
    ]


class Fits(unittest.TestCase):
    def test_a_letter_lets_itself_by_alone(self):
        for sign in LETTERS:
            for mark in LETTERS + "-":
                self.assertIs(fits(sign, mark), sign == mark)

    def test_the_free_sign_lets_itself_by_alone(self):
        for mark in LETTERS:
            self.assertIs(fits("-", mark), False)
        self.assertIs(fits("-", "-"), True)

    def test_hash_lets_each_letter_by_and_no_free_day(self):
        for mark in LETTERS:
            self.assertIs(fits("#", mark), True)
        self.assertIs(fits("#", "-"), False)

    def test_question_lets_each_mark_by(self):
        for mark in LETTERS + "-":
            self.assertIs(fits("?", mark), True)


class TheClasses(unittest.TestCase):
    def test_each_is_under_rule_and_none_under_another(self):
        classes = (Never, Most, Least, Both, Either, Not)
        for one in classes:
            self.assertTrue(issubclass(one, Rule))
            for other in classes:
                if one != other:
                    self.assertFalse(issubclass(one, other))

    def test_fields(self):
        self.assertEqual(Never("N-#?").word, "N-#?")
        for counted in (Most, Least):
            rule = counted(3, "N#", 5)
            self.assertEqual((rule.many, rule.marks, rule.days), (3, "N#", 5))
        left, right = Never("A"), Most(1, "B", 2)
        for joined in (Both, Either):
            rule = joined(left, right)
            self.assertIs(rule.left, left)
            self.assertIs(rule.right, right)
        self.assertIs(Not(left).inner, left)

    def test_arguments_by_name(self):
        inner = Never(word="A")
        self.assertEqual(Most(many=1, marks="A", days=2).text(), "most 1 of A in 2")
        self.assertEqual(Least(many=1, marks="A", days=2).text(), "least 1 of A in 2")
        self.assertEqual(Both(left=inner, right=Not(inner=inner)).text(), "never A and not never A")
        self.assertEqual(Either(left=inner, right=inner).text(), "never A or never A")
        self.assertIs(inner.bad(marks="A"), True)

    def test_asking_changes_no_field(self):
        rule = Both(Never("N#"), Not(Most(1, "#-", 3)))
        for marks in texts("N-", 4):
            rule.bad(marks)
        rule.reach()
        self.assertEqual(rule.text(), "never N# and not most 1 of #- in 3")
        self.assertEqual(rule.text(), rule.text())


class NeverRule(unittest.TestCase):
    def test_reach_is_the_number_of_signs(self):
        for many in range(1, 8):
            reach = Never("?" * many).reach()
            self.assertIs(type(reach), int)
            self.assertEqual(reach, many)

    def test_shorter_as_long_and_longer(self):
        rule = Never("N-M")
        for marks in ("", "M", "-M", "N-", "--M", "N-N", "M-N", "NNM", "N-M-", "N-MM"):
            self.assertIs(rule.bad(marks), False, marks)
        for marks in ("N-M", "NN-M", "-N-M", "N-MN-M"):
            self.assertIs(rule.bad(marks), True, marks)

    def test_one_sign(self):
        self.assertIs(Never("-").bad(""), False)
        self.assertIs(Never("?").bad(""), False)
        self.assertIs(Never("?").bad("-"), True)
        self.assertIs(Never("-").bad("N"), False)
        self.assertIs(Never("-").bad("N-"), True)
        self.assertIs(Never("#").bad("-Q"), True)
        self.assertIs(Never("#").bad("Q-"), False)

    def test_seven_signs(self):
        rule = Never("N#?-AB?")
        self.assertIs(rule.bad("Z--ABC"), False)
        self.assertIs(rule.bad("NZ--ABC"), True)
        self.assertIs(rule.bad("MNZ--ABC"), True)
        self.assertIs(rule.bad("NZN-AB-"), True)
        self.assertIs(rule.bad("N---ABC"), False)
        self.assertIs(rule.bad("NZ--ACC"), False)
        self.assertIs(rule.bad("MZ--ABC"), False)

    def test_against_the_words_of_the_point(self):
        for word in texts("N-#?", 3):
            if not word:
                continue
            rule = Never(word)
            for marks in texts("NM-", 4):
                bad = len(marks) >= len(word)
                for back in range(1, len(word) + 1):
                    bad = bad and fits(word[-back], marks[-back])
                self.assertIs(rule.bad(marks), bad, (word, marks))


class CountedRules(unittest.TestCase):
    def test_reach_is_days(self):
        for counted in (Most, Least):
            for days in range(1, 8):
                reach = counted(7, "A", days).reach()
                self.assertIs(type(reach), int)
                self.assertEqual(reach, days)

    def test_the_text_without_signs_is_good_by_each(self):
        for many in range(8):
            for days in range(1, 8):
                self.assertIs(Most(many, "#-", days).bad(""), False)
                self.assertIs(Least(many, "#-", days).bad(""), False)

    def test_most_looks_at_all_where_there_are_fewer(self):
        rule = Most(1, "N", 4)
        for marks in ("N", "N-", "-N-", "NMMM", "NMMMN", "N---N-"):
            self.assertIs(rule.bad(marks), False, marks)
        for marks in ("NN", "N-N", "N--N", "-NN-", "NNN--N"):
            self.assertIs(rule.bad(marks), True, marks)

    def test_least_waits_for_its_days(self):
        rule = Least(2, "N", 4)
        for marks in ("", "-", "--", "---", "NN--", "N-N-", "-NNN", "---NN"):
            self.assertIs(rule.bad(marks), False, marks)
        for marks in ("----", "N---", "NN---", "NNN-M-", "NN-NMMM"):
            self.assertIs(rule.bad(marks), True, marks)

    def test_edges_of_many_and_days(self):
        self.assertIs(Most(0, "N", 1).bad("N"), True)
        self.assertIs(Most(0, "N", 1).bad("N-"), False)
        self.assertIs(Most(0, "N", 7).bad("N------"), True)
        self.assertIs(Most(0, "N", 7).bad("N-------"), False)
        self.assertIs(Most(7, "#", 7).bad("NNNNNNNNN"), False)
        self.assertIs(Most(6, "#", 7).bad("NNNNNNN"), True)
        self.assertIs(Most(7, "#", 1).bad("N"), False)
        self.assertIs(Least(0, "N", 1).bad("-"), False)
        self.assertIs(Least(0, "N", 7).bad("-------"), False)
        self.assertIs(Least(7, "N", 7).bad("NNNNNNN"), False)
        self.assertIs(Least(7, "N", 7).bad("-NNNNNNN"), False)
        self.assertIs(Least(7, "N", 7).bad("NNN-NNN"), True)
        self.assertIs(Least(7, "N", 7).bad("NNNNNN"), False)
        self.assertIs(Least(7, "N", 1).bad("N"), True)

    def test_a_mark_let_by_by_two_signs_counts_once(self):
        self.assertIs(Most(1, "#N", 2).bad("-N"), False)
        self.assertIs(Most(2, "N#M", 3).bad("NM-"), False)
        self.assertIs(Least(2, "#N", 2).bad("-N"), True)

    def test_eight_signs(self):
        self.assertIs(Most(6, "ABCDEFG-", 7).bad("ABCDEF-"), True)
        self.assertIs(Most(6, "ABCDEFG-", 7).bad("ABCDEFH"), False)
        self.assertIs(Least(7, "ABCDEFG-", 7).bad("ABCDEFH"), True)

    def test_against_the_words_of_the_point(self):
        among = {"N": "N", "#": "NM", "-": "-", "N-": "N-", "-#": "NM-", "QM": "M"}
        rows = list(texts("N-", 8)) + list(texts("NM-", 4))
        for signs, days, many in itertools.product(among, range(1, 8), range(8)):
            most, least = Most(many, signs, days), Least(many, signs, days)
            for marks in rows:
                count = 0
                for mark in marks[-days:]:
                    count += mark in among[signs]
                self.assertIs(most.bad(marks), count > many)
                self.assertIs(least.bad(marks), len(marks) >= days and count < many)


class MadeRules(unittest.TestCase):
    def test_truth_by_truth(self):
        one, other = Never("N?"), Never("?M")
        for marks, left, right in (("--", False, False), ("N-", True, False), ("-M", False, True), ("NM", True, True)):
            self.assertIs(one.bad(marks), left)
            self.assertIs(other.bad(marks), right)
            self.assertIs(Both(one, other).bad(marks), left or right)
            self.assertIs(Either(one, other).bad(marks), left and right)
            self.assertIs(Not(one).bad(marks), not left)

    def test_either_asks_of_one_day(self):
        rule = Either(Never("N"), Never("M"))
        self.assertIs(rule.bad("NM"), False)
        self.assertEqual(bad_days(rule, "", "NMNM"), [])

    def test_unlike_reach_and_short_texts(self):
        short, long = Never("N"), Least(2, "#", 4)
        for marks in texts("N-", 5):
            left, right = short.bad(marks), long.bad(marks)
            self.assertIs(Both(short, long).bad(marks), left or right)
            self.assertIs(Both(long, short).bad(marks), left or right)
            self.assertIs(Either(short, long).bad(marks), left and right)
            self.assertIs(Either(long, short).bad(marks), left and right)
            self.assertIs(Not(Both(short, long)).bad(marks), not left and not right)

    def test_nested(self):
        a, b, c = Never("N"), Never("-N"), Most(1, "N", 3)
        rule = Both(Not(Either(a, b)), Either(Not(c), Both(b, Not(a))))
        for marks in texts("NM-", 4):
            in_a, in_b, in_c = a.bad(marks), b.bad(marks), c.bad(marks)
            expected = (not (in_a and in_b)) or ((not in_c) and (in_b or not in_a))
            self.assertIs(rule.bad(marks), expected, marks)

    def test_one_rule_twice(self):
        rule = Never("N-")
        for marks in texts("N-", 3):
            self.assertIs(Both(rule, rule).bad(marks), rule.bad(marks))
            self.assertIs(Either(rule, rule).bad(marks), rule.bad(marks))
            self.assertIs(Both(rule, Not(rule)).bad(marks), True)
            self.assertIs(Either(rule, Not(rule)).bad(marks), False)
        self.assertEqual(Both(rule, rule).reach(), 2)

    def test_the_text_without_signs(self):
        for rule in plain_rules():
            self.assertIs(rule.bad(""), False)
            self.assertIs(Not(rule).bad(""), True)
            self.assertIs(Not(Not(rule)).bad(""), False)
            self.assertIs(Both(rule, Not(rule)).bad(""), True)
            self.assertIs(Either(rule, Not(rule)).bad(""), False)
            self.assertIs(Either(Not(rule), Not(rule)).bad(""), True)

    def test_reach_is_the_greater_one(self):
        two, five, seven = Never("NN"), Most(1, "#", 5), Least(1, "-", 7)
        for joined in (Both, Either):
            self.assertEqual(joined(two, five).reach(), 5)
            self.assertEqual(joined(five, two).reach(), 5)
            self.assertEqual(joined(two, two).reach(), 2)
            self.assertEqual(joined(Not(two), joined(seven, five)).reach(), 7)
        for rule in (two, five, seven):
            self.assertEqual(Not(rule).reach(), rule.reach())
            self.assertEqual(Not(Not(rule)).reach(), rule.reach())
            self.assertIs(type(Both(rule, Not(rule)).reach()), int)

    def test_a_longer_text_is_told_like_its_last_marks(self):
        for rule in plain_rules() + made_rules():
            reach = rule.reach()
            for marks in texts("NM-", 5):
                if len(marks) > reach:
                    self.assertIs(rule.bad(marks), rule.bad(marks[-reach:]), (rule.text(), marks))

    def test_sixty_parts_deep(self):
        left = right = Never("N")
        inner = Never("N")
        for _ in range(29):
            left = Both(left, Never("M"))
            right = Either(Never("N"), right)
        for _ in range(59):
            inner = Not(inner)
        self.assertIs(left.bad("M"), True)
        self.assertIs(left.bad("-"), False)
        self.assertIs(right.bad("N"), True)
        self.assertIs(right.bad("M"), False)
        self.assertIs(inner.bad("N"), False)
        self.assertEqual((left.reach(), right.reach(), inner.reach()), (1, 1, 1))


class BadDays(unittest.TestCase):
    def test_without_a_past(self):
        self.assertEqual(bad_days(Never("NN"), "", "NNN-NN"), [1, 2, 5])
        self.assertEqual(bad_days(Most(2, "#", 3), "", "NMNN-NN"), [2, 3])
        self.assertEqual(bad_days(Least(1, "-", 3), "", "NMNN-NNN"), [2, 3, 7])
        self.assertEqual(bad_days(Never("N"), "", "MM--"), [])

    def test_behind_a_past(self):
        self.assertEqual(bad_days(Never("NN"), "N", "N-NN"), [0, 3])
        self.assertEqual(bad_days(Never("N?M"), "-N", "-M-M"), [1])
        self.assertEqual(bad_days(Never("N?M"), "N-", "MNMM"), [0, 3])
        self.assertEqual(bad_days(Least(1, "-", 3), "NN", "N-"), [0])
        self.assertEqual(bad_days(Least(1, "-", 3), "N", "NN-"), [1])

    def test_the_last_mark_of_a_past_is_nearest(self):
        self.assertEqual(bad_days(Never("NM"), "-N", "M"), [0])
        self.assertEqual(bad_days(Never("NM"), "N-", "M"), [])

    def test_a_day_of_the_past_is_none_of_them(self):
        self.assertEqual(bad_days(Never("N"), "NNNN", "-N-"), [1])
        self.assertEqual(bad_days(Not(Never("N")), "----", "NN"), [])

    def test_the_row_without_days(self):
        for past in ("", "N", "NNNNNN"):
            self.assertEqual(bad_days(Never("N"), past, ""), [])
            self.assertEqual(bad_days(Not(Never("N")), past, ""), [])

    def test_not_finds_short_rows_bad(self):
        self.assertEqual(bad_days(Not(Never("NN")), "", "NNN-"), [0, 3])
        self.assertEqual(bad_days(Not(Least(1, "#", 3)), "", "---N"), [0, 1, 3])

    def test_against_the_words_of_the_point(self):
        for rule in plain_rules() + made_rules():
            for past in ("", "N", "-M"):
                for row in texts("NM-", 4):
                    expected = []
                    for day in range(len(row)):
                        if rule.bad(past + row[0:day] + row[day]):
                            expected.append(day)
                    self.assertEqual(bad_days(rule, past, row), expected)

    def test_the_list_is_the_askers_own(self):
        rule = Never("N")
        first = bad_days(rule, "", "N-N")
        first.append(99)
        second = bad_days(rule, "", "N-N")
        self.assertIs(type(second), list)
        self.assertEqual(second, [0, 2])
        second.clear()
        self.assertEqual(bad_days(rule, "", "N-N"), [0, 2])
        nothing = bad_days(rule, "", "")
        nothing.append(1)
        self.assertEqual(bad_days(rule, "", ""), [])

    def test_each_is_a_whole_number(self):
        for day in bad_days(Never("?"), "N", "NN"):
            self.assertIs(type(day), int)


if __name__ == "__main__":
    unittest.main()
