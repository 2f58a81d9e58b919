"""Point 2: every refusal under one base, no refusal's class under another one's."""

import unittest

from rotafair import errors
from rotafair.errors import Faulty, NoDay, NoHouse, NoName, NoRow, NoRule, RotaError, TooWide

REFUSALS = {
    NoRule: (),
    NoName: (),
    NoDay: (),
    NoRow: (),
    TooWide: (),
    NoHouse: (3,),
    Faulty: (2, "need", "N", 0),
}


class Refusals(unittest.TestCase):
    def test_each_is_taken_as_the_base_and_as_value_error(self):
        for refusal, values in REFUSALS.items():
            for base in (RotaError, ValueError):
                with self.subTest(refusal=refusal, base=base), self.assertRaises(base):
                    raise refusal(*values)

    def test_none_stands_under_another(self):
        for refusal in REFUSALS:
            for other in REFUSALS:
                if refusal != other:
                    self.assertFalse(issubclass(refusal, other), (refusal, other))

    def test_the_base_is_under_none_of_them(self):
        self.assertTrue(issubclass(RotaError, ValueError))
        for refusal in REFUSALS:
            self.assertFalse(issubclass(RotaError, refusal))

    def test_words_may_be_told(self):
        for refusal in (NoRule, NoName, NoDay, NoRow, TooWide):
            self.assertIn("some words", str(refusal("some words")))

    def test_there_are_no_others(self):
        classes = [value for value in vars(errors).values() if isinstance(value, type)]
        self.assertEqual(set(classes), {RotaError, *REFUSALS})


class Fields(unittest.TestCase):
    def test_no_house_has_its_line(self):
        for line in (0, 1, 17):
            self.assertEqual(NoHouse(line).line, line)

    def test_faulty_has_the_fault(self):
        error = Faulty(4, "rule", "ann", 7)
        self.assertEqual((error.day, error.word, error.who, error.which), (4, "rule", "ann", 7))

    def test_faulty_has_a_kind_as_which(self):
        error = Faulty(0, "skill", "bob", "N")
        self.assertEqual((error.day, error.word, error.who, error.which), (0, "skill", "bob", "N"))

    def test_fields_are_there_when_it_was_raised(self):
        with self.assertRaises(NoHouse) as taken:
            raise NoHouse(5)
        self.assertEqual(taken.exception.line, 5)
        with self.assertRaises(Faulty) as taken:
            raise Faulty(1, "most", "cy", 3)
        self.assertEqual(taken.exception.which, 3)


if __name__ == "__main__":
    unittest.main()
