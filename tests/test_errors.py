"""Point [2]: the refusals and their fields."""

import unittest

from kinwords import errors
from kinwords.errors import KinError, NoFact, NoQuestion, NoRow, NoSaying, NoText, TooMany

OTHERS = [NoText, NoFact, NoQuestion, NoSaying, TooMany, NoRow]


class Bases(unittest.TestCase):
    def test_base_stands_straight_under_value_error(self):
        self.assertEqual(KinError.__bases__, (ValueError,))

    def test_each_other_stands_straight_under_base(self):
        for error in OTHERS:
            with self.subTest(error=error):
                self.assertEqual(error.__bases__, (KinError,))

    def test_none_stands_under_another(self):
        for error in OTHERS:
            for other in OTHERS:
                if error is not other:
                    self.assertFalse(issubclass(error, other), (error, other))

    def test_there_are_no_more(self):
        told = {value for value in vars(errors).values() if isinstance(value, type)}
        self.assertEqual(told, {KinError, *OTHERS})

    def test_names(self):
        names = [error.__name__ for error in [KinError] + OTHERS]
        self.assertEqual(
            names, ["KinError", "NoText", "NoFact", "NoQuestion", "NoSaying", "TooMany", "NoRow"])


class Fields(unittest.TestCase):
    def test_fact(self):
        for fact in [("is", "Ann", "cat"), ("has", "cat", "owns", ("both", "dog", "small"))]:
            self.assertEqual(NoFact(fact).fact, fact)

    def test_number(self):
        for number in [0, 1, 77, -3]:
            self.assertEqual(NoSaying(number).number, number)

    def test_fields_are_each_object_s_own(self):
        first = NoSaying(1)
        NoSaying(2)
        self.assertEqual(first.number, 1)

    def test_caught_by_the_base_with_fields(self):
        with self.assertRaises(KinError) as caught:
            raise NoFact(("is", "Ann", "cat"))
        self.assertEqual(caught.exception.fact, ("is", "Ann", "cat"))
        with self.assertRaises(ValueError) as caught:
            raise NoSaying(5)
        self.assertEqual(caught.exception.number, 5)

    def test_the_others_are_made_from_a_text(self):
        for error in [KinError, NoText, NoQuestion, TooMany, NoRow]:
            with self.assertRaises(KinError):
                raise error("why")


if __name__ == "__main__":
    unittest.main()
