"""Points 9 to 11: rules read from texts, and their own texts."""

import itertools
import unittest

from rotafair.errors import Faulty, NoDay, NoHouse, NoName, NoRow, NoRule, RotaError, TooWide
from rotafair.rules import Both, Either, Least, Most, Never, Not
from rotafair.rulewords import read_rule

A1, A2, A3, A4 = Never("A"), Most(2, "#", 3), Least(1, "-N", 7), Never("B-")
T1, T2, T3, T4 = "never A", "most 2 of # in 3", "least 1 of -N in 7", "never B-"


def fields(rule):
    """A rule as nested tuples of its class and its fields."""
    if isinstance(rule, Never):
        return (type(rule), rule.word)
    if isinstance(rule, (Most, Least)):
        return (type(rule), type(rule.many), rule.many, rule.marks, type(rule.days), rule.days)
    if isinstance(rule, Not):
        return (type(rule), fields(rule.inner))
    return (type(rule), fields(rule.left), fields(rule.right))


def rules_of(parts):
    """Every shape of a rule with so many parts, over two plain rules."""
    if parts == 1:
        return [A1, A2]
    found = [Not(inner) for inner in rules_of(parts - 1)]
    for left in range(1, parts - 1):
        for one, other in itertools.product(rules_of(left), rules_of(parts - 1 - left)):
            found += [Both(one, other), Either(one, other)]
    return found


def told(rule):
    """The own text by the words of point 11, kept apart from the program's own."""
    if isinstance(rule, Never):
        return f"never {rule.word}"
    if isinstance(rule, (Most, Least)):
        return f"{type(rule).__name__.lower()} {rule.many} of {rule.marks} in {rule.days}"
    if isinstance(rule, Not):
        return "not " + held(rule.inner, (Both, Either))
    if isinstance(rule, Both):
        return held(rule.left, (Either,)) + " and " + held(rule.right, (Both, Either))
    return held(rule.left, ()) + " or " + held(rule.right, (Either,))


def held(rule, in_brackets):
    return f"( {told(rule)} )" if isinstance(rule, in_brackets) else told(rule)


def fully_bracketed(rule):
    if isinstance(rule, Not):
        return f"( not {fully_bracketed(rule.inner)} )"
    if isinstance(rule, (Both, Either)):
        word = "and" if isinstance(rule, Both) else "or"
        return f"( {fully_bracketed(rule.left)} {word} {fully_bracketed(rule.right)} )"
    return f"( {rule.text()} )"


class RuleTest(unittest.TestCase):
    def assert_reads(self, text, rule):
        self.assertEqual(fields(read_rule(text)), fields(rule), text)

    def assert_refused(self, text):
        with self.assertRaises(NoRule, msg=repr(text)):
            read_rule(text)


class Plain(RuleTest):
    def test_never(self):
        for word in ("A", "Z", "-", "#", "?", "NN", "N-#?NNN", "???????", "AND", "OR", "NEVER"):
            self.assert_reads(f"never {word}", Never(word))

    def test_every_number(self):
        for many in range(8):
            for days in range(1, 8):
                self.assert_reads(f"most {many} of N in {days}", Most(many, "N", days))
                self.assert_reads(f"least {many} of N in {days}", Least(many, "N", days))

    def test_marks(self):
        for marks in ("A", "Z", "-", "#", "#-", "-#", "NA", "A#N-", "ABCDEFGH", "ABCDEF-#"):
            self.assert_reads(f"most 2 of {marks} in 3", Most(2, marks, 3))
            self.assert_reads(f"least 2 of {marks} in 3", Least(2, marks, 3))

    def test_every_letter(self):
        for sign in "ABCDEFGHIJKLMNOPQRSTUVWXYZ":
            self.assert_reads(f"never {sign}", Never(sign))
            self.assert_reads(f"most 1 of {sign} in 1", Most(1, sign, 1))


class Made(RuleTest):
    def test_the_example_of_the_point(self):
        rule = Either(Both(Not(Never("NN")), Never("MM")), Most(2, "#", 3))
        self.assert_reads("not never NN and never MM or most 2 of # in 3", rule)
        self.assertEqual(rule.text(), "not never NN and never MM or most 2 of # in 3")

    def test_the_left_one_goes_first(self):
        self.assert_reads(f"{T1} and {T2} and {T3}", Both(Both(A1, A2), A3))
        self.assert_reads(f"{T1} or {T2} or {T3}", Either(Either(A1, A2), A3))
        self.assert_reads(f"{T1} and {T2} and {T3} and {T4}", Both(Both(Both(A1, A2), A3), A4))
        self.assert_reads(f"{T1} or {T2} or {T3} or {T4}", Either(Either(Either(A1, A2), A3), A4))

    def test_and_binds_closer_than_or(self):
        self.assert_reads(f"{T1} and {T2} or {T3}", Either(Both(A1, A2), A3))
        self.assert_reads(f"{T1} or {T2} and {T3}", Either(A1, Both(A2, A3)))
        self.assert_reads(f"{T1} and {T2} or {T3} and {T4}", Either(Both(A1, A2), Both(A3, A4)))
        self.assert_reads(f"{T1} or {T2} and {T3} or {T4}", Either(Either(A1, Both(A2, A3)), A4))

    def test_not_binds_closest(self):
        self.assert_reads(f"not {T1}", Not(A1))
        self.assert_reads(f"not not {T1}", Not(Not(A1)))
        self.assert_reads(f"not {T1} and {T2}", Both(Not(A1), A2))
        self.assert_reads(f"not {T1} or {T2}", Either(Not(A1), A2))
        self.assert_reads(f"{T1} and not {T2} and {T3}", Both(Both(A1, Not(A2)), A3))
        self.assert_reads(f"not not {T1} or not {T2}", Either(Not(Not(A1)), Not(A2)))
        self.assert_reads(f"not ( {T1} and {T2} )", Not(Both(A1, A2)))
        self.assert_reads(f"not ( {T1} ) and {T2}", Both(Not(A1), A2))
        self.assert_reads(f"not ( {T1} or {T2} ) and {T3}", Both(Not(Either(A1, A2)), A3))

    def test_brackets_go_first(self):
        self.assert_reads(f"( {T1} or {T2} ) and {T3}", Both(Either(A1, A2), A3))
        self.assert_reads(f"{T1} and ( {T2} or {T3} )", Both(A1, Either(A2, A3)))
        self.assert_reads(f"{T1} or ( {T2} or {T3} )", Either(A1, Either(A2, A3)))
        self.assert_reads(f"( {T1} or {T2} ) and ( {T3} or {T4} )", Both(Either(A1, A2), Either(A3, A4)))
        self.assert_reads(f"( {T1} and {T2} ) or ( {T3} and {T4} )", Either(Both(A1, A2), Both(A3, A4)))

    def test_more_brackets_than_needed(self):
        self.assert_reads(f"( {T1} )", A1)
        self.assert_reads(f"( ( ( {T2} ) ) )", A2)
        self.assert_reads(f"( not ( not ( {T3} ) ) )", Not(Not(A3)))
        self.assert_reads(f"( ( {T1} ) and ( {T2} ) )", Both(A1, A2))
        self.assert_reads(f"( {T1} and {T2} ) or {T3}", Either(Both(A1, A2), A3))
        for parts in range(1, 6):
            for rule in rules_of(parts):
                self.assert_reads(fully_bracketed(rule), rule)


class OwnText(RuleTest):
    def test_the_examples_of_the_point(self):
        self.assertEqual(Both(A1, Either(A2, A3)).text(), f"{T1} and ( {T2} or {T3} )")
        self.assertEqual(Either(A1, Both(A2, A3)).text(), f"{T1} or {T2} and {T3}")
        self.assertEqual(Both(A1, Both(A2, A3)).text(), f"{T1} and ( {T2} and {T3} )")

    def test_plain_rules(self):
        for rule, text in ((A1, T1), (A2, T2), (A3, T3), (A4, T4)):
            self.assertEqual(rule.text(), text)
        self.assertEqual(Never("N-#?").text(), "never N-#?")
        self.assertEqual(Most(0, "#-A", 1).text(), "most 0 of #-A in 1")
        self.assertEqual(Least(7, "ABCDEFGH", 7).text(), "least 7 of ABCDEFGH in 7")

    def test_brackets_just_where_told(self):
        for rule, text in (
            (Not(Both(A1, A2)), f"not ( {T1} and {T2} )"),
            (Not(Either(A1, A2)), f"not ( {T1} or {T2} )"),
            (Not(Not(A1)), f"not not {T1}"),
            (Both(Either(A1, A2), A3), f"( {T1} or {T2} ) and {T3}"),
            (Both(Both(A1, A2), A3), f"{T1} and {T2} and {T3}"),
            (Both(Not(A1), Not(A2)), f"not {T1} and not {T2}"),
            (Either(A1, Either(A2, A3)), f"{T1} or ( {T2} or {T3} )"),
            (Either(Either(A1, A2), A3), f"{T1} or {T2} or {T3}"),
            (Either(Both(A1, A2), A3), f"{T1} and {T2} or {T3}"),
            (Either(Not(A1), Not(A2)), f"not {T1} or not {T2}"),
        ):
            self.assertEqual(rule.text(), text)

    def test_one_rule_twice(self):
        joined = Either(A1, A2)
        self.assertEqual(Both(joined, joined).text(), f"( {T1} or {T2} ) and ( {T1} or {T2} )")
        self.assert_reads(Both(joined, joined).text(), Both(joined, joined))

    def test_each_rule_is_read_from_its_own_text(self):
        for parts in range(1, 7):
            for rule in rules_of(parts):
                self.assertEqual(rule.text(), told(rule))
                self.assert_reads(rule.text(), rule)

    def test_a_read_text_is_told_without_what_is_not_needed(self):
        self.assertEqual(read_rule(f"( ( {T1} ) and ( {T2} ) )").text(), f"{T1} and {T2}")
        self.assertEqual(read_rule(f"not ( {T1} )").text(), f"not {T1}")

    def test_own_texts_of_just_sixty_words(self):
        deep = A1
        for _ in range(58):
            deep = Not(deep)
        wide = A1
        for _ in range(18):
            wide = Either(wide, A1)
        wide = Either(wide, Not(A1))
        for rule in (deep, wide):
            self.assertEqual(len(rule.text().split(" ")), 60)
            self.assert_reads(rule.text(), rule)
        for rule in (Not(deep), Either(wide.left, Not(wide.right))):
            self.assertEqual(len(rule.text().split(" ")), 61)
            self.assert_refused(rule.text())


class Bounds(RuleTest):
    def test_sixty_words_are_read_and_sixty_one_are_not(self):
        twenty = " and ".join([T1] * 20)
        self.assertEqual(len(twenty.split(" ")), 59)
        read_rule(twenty)
        read_rule(f"not {twenty}")
        self.assert_refused(f"not not {twenty}")
        self.assert_refused(f"( {twenty} )")
        counted = " or ".join([T2] * 8)
        read_rule(f"{counted} or not not {T1}")
        self.assert_refused(f"{counted} or not not not {T1}")

    def test_many_nots(self):
        rule = read_rule("not " * 58 + "never A")
        for _ in range(58):
            self.assertIsInstance(rule, Not)
            rule = rule.inner
        self.assertEqual(fields(rule), (Never, "A"))
        self.assert_refused("not " * 59 + "never A")

    def test_many_brackets(self):
        self.assert_reads("( " * 29 + "never A" + " )" * 29, Never("A"))
        self.assert_refused("( " * 30 + "never A" + " )" * 30)

    def test_very_long_texts(self):
        for text in ("not " * 20000 + "never A", "( " * 20000 + "never A" + " )" * 20000, " " * 20000, "A" * 20000):
            self.assert_refused(text)
        self.assert_refused(" and ".join(["never A"] * 20000))


class Refused(RuleTest):
    def test_the_text_without_signs(self):
        self.assert_refused("")

    def test_a_blank_too_many(self):
        for text in (" ", "  ", " never A", "never A ", "never  A", " not never A", "not  never A", "not never A "):
            self.assert_refused(text)
        for text in ("never A  and never B", "never A and  never B", "(  never A )", "( never A  )", " ( never A )"):
            self.assert_refused(text)
        for text in ("most  2 of # in 3", "most 2  of # in 3", "most 2 of  # in 3", "most 2 of #  in 3"):
            self.assert_refused(text)
        for text in ("most 2 of # in  3", "most 2 of # in 3 ", "most  of # in 3", "most 2 of  in 3", "most 2 of # in "):
            self.assert_refused(text)
        self.assert_refused("never ")
        self.assert_refused("never A or ")
        self.assert_refused(" or never A")

    def test_other_white_space(self):
        for white in "\t\n\r\v\f\u00a0\u2003\x1c\u200b":
            for text in (f"never{white}A", f"never A{white}", f"{white}never A", f"never A{white}and never B"):
                self.assert_refused(text)
            self.assert_refused(f"never A and{white}never B")
            self.assert_refused(f"( never A{white})")
            self.assert_refused(white)

    def test_a_word_missing_or_told_twice(self):
        for text in (T1, T2, T3, f"{T1} and {T2}", f"{T2} or {T3}", f"( {T1} )", f"( {T1} or {T2} ) and {T3}"):
            words = text.split(" ")
            for place in range(len(words)):
                self.assert_refused(" ".join(words[:place] + words[place + 1:]))
                if words[place] not in ("(", ")"):
                    self.assert_refused(" ".join(words[:place + 1] + words[place:]))

    def test_a_word_that_is_unknown(self):
        for text in (T1, T2, T3, f"not {T1}", f"{T1} and {T2}", f"{T2} or {T3}", f"( {T1} )"):
            words = text.split(" ")
            for place in range(len(words)):
                for other in ("", "xor", "but", "nevers", "And", "nOT", ".", "*", "10"):
                    self.assert_refused(" ".join(words[:place] + [other] + words[place + 1:]))

    def test_the_words_are_small_letters(self):
        for text in ("NEVER A", "Never A", "NOT never A", "never A AND never B", "never A OR never B"):
            self.assert_refused(text)
        for text in ("MOST 2 of # in 3", "most 2 OF # in 3", "most 2 of # IN 3", "LEAST 2 of # in 3"):
            self.assert_refused(text)

    def test_words_in_another_order(self):
        for text in ("A never", "never A not", "of 2 most # in 3", "most # of 2 in 3", "most 2 in # of 3", "and", "or"):
            self.assert_refused(text)
        for text in ("not", "never", "most", "least", "(", ")", "not and", "and never A", "never A or", "or or or"):
            self.assert_refused(text)
        for text in ("never A not never B", "never A never B", "never A and or never B", "never A and and never B"):
            self.assert_refused(text)
        for text in ("not", "not not", "never A and not", "not or never A", "never A not and never B", "most"):
            self.assert_refused(text)

    def test_brackets_that_dont_match(self):
        for text in ("( )", ") (", "( ( never A )", "( never A ) )", "never A )", "( never A", ") never A (", "( ) never A"):
            self.assert_refused(text)
        for text in ("( never A ) ( never B )", "never A ( never B )", "( never A ) never B", "( never A and ) never B"):
            self.assert_refused(text)
        for text in ("never A ) and ( never B", "( never A ) and never B )", "( never A ( and ) never B )"):
            self.assert_refused(text)
        for text in ("never ( A )", "( never ) A", "most ( 2 ) of # in 3", "not ( )", "( not ) never A", "( or )"):
            self.assert_refused(text)
        for text in ("never A ) or ( never B or never C", "( never A ) or never B ) and ( never C", "[ never A ]"):
            self.assert_refused(text)

    def test_brackets_without_a_blank(self):
        for text in ("(never A)", "( never A)", "(never A )", "(( never A ) )", "( never A ))", "not( never A )"):
            self.assert_refused(text)
        for text in ("( never A )and never B", "never A and( never B )", "()", "never A)", "(never A"):
            self.assert_refused(text)

    def test_numbers(self):
        for word in ("most", "least"):
            for many in ("8", "9", "10", "00", "01", "07", "-1", "+1", "1.", "a", "A", "#", "two", "012", "0123", "67"):
                self.assert_refused(f"{word} {many} of # in 3")
            for days in ("0", "8", "9", "10", "00", "01", "07", "-1", "+1", "3.", "a", "A", "#", "12", "123", "67"):
                self.assert_refused(f"{word} 2 of # in {days}")
            for figure in ("\u0663", "\u00b2", "\uff12", "\u2461", "\u4e8c", "\u00bd", "\u0967", "1_1", "\U0001d7d0"):
                self.assert_refused(f"{word} {figure} of # in 3")
                self.assert_refused(f"{word} 2 of # in {figure}")

    def test_the_word_of_never(self):
        for word in ("ABCDEFGH", "????????", "a", "Na", "nn", "0", "N1", "N_N", "N.N", "N*", "\u00c4", "\u0391", "\uff21"):
            self.assert_refused(f"never {word}")
        for word in ("(", ")", "not", "and", "or", "never", "--------", "@", "[", "`", "{", "!", "/"):
            self.assert_refused(f"never {word}")

    def test_marks(self):
        for word in ("most", "least"):
            for marks in ("AA", "A-A", "--", "##", "NMN", "ABCDEFGA", "ABCDEFGHI", "ABCDEF-#G", "AAAAAAAAA"):
                self.assert_refused(f"{word} 2 of {marks} in 3")
            for marks in ("?", "A?", "?-", "a", "Na", "n", "0", "A1", ".", "*", "\u00c4", "\u0391", "\uff21", "@", "["):
                self.assert_refused(f"{word} 2 of {marks} in 3")

    def test_sign_by_sign(self):
        letters = "ABCDEFGHIJKLMNOPQRSTUVWXYZ"
        for code in range(512):
            sign = chr(code)
            for text, good in (
                (f"never {sign}", letters + "-#?"),
                (f"never Q{sign}", letters + "-#?"),
                (f"most 1 of {sign} in 2", letters + "-#"),
                (f"least 1 of {sign} in 2", letters + "-#"),
                (f"most {sign} of N in 2", "01234567"),
                (f"least {sign} of N in 2", "01234567"),
                (f"most 1 of N in {sign}", "1234567"),
                (f"least 1 of N in {sign}", "1234567"),
            ):
                if sign in good:
                    self.assertEqual(read_rule(text).text(), text)
                else:
                    self.assert_refused(text)

    def test_one_wrong_part_spoils_the_whole(self):
        for wrong in ("never a", "most 8 of # in 3", "least 1 of AA in 2", "( never A", "not"):
            for text in (f"{T1} and {wrong}", f"{wrong} or {T1}", f"not {wrong}", f"( {wrong} )", f"{T1} or ( {wrong} )"):
                self.assert_refused(text)

    def test_a_refusal_is_taken_by_its_own_class_and_the_base(self):
        for taken in (NoRule, RotaError, ValueError):
            with self.assertRaises(taken):
                read_rule("never")
        for text in ("never", "", "never A " * 40, "( never A"):
            try:
                read_rule(text)
            except (NoName, NoDay, NoRow, TooWide, NoHouse, Faulty):
                self.fail("taken by another refusal's class")
            except NoRule:
                pass

    def test_a_refusal_changes_no_later_answer(self):
        self.assert_refused("never A and")
        self.assert_reads("never A and never B-", Both(A1, A4))


if __name__ == "__main__":
    unittest.main()
