"""The refusals: the interface, prunepath/errors.py, and point [2]."""

import unittest

from prunepath import errors
from prunepath.errors import (
    NoMeasure, NoPlace, NoPrice, NoPruning, NoRatio, NoRow, NoTable, NoTree, PruneError,
)

PLAIN = (NoRatio, NoTable, NoRow, NoMeasure, NoPruning, NoTree)
REFUSALS = PLAIN + (NoPlace, NoPrice)


def made(refusal):
    if refusal is NoPlace:
        return NoPlace("yn")
    if refusal is NoPrice:
        return NoPrice((-1, 2))
    return refusal("words")


class Errors(unittest.TestCase):
    def test_base_stands_straight_under_value_error(self):
        self.assertEqual(PruneError.__bases__, (ValueError,))

    def test_each_stands_straight_under_the_base(self):
        for refusal in REFUSALS:
            with self.subTest(refusal=refusal.__name__):
                self.assertEqual(refusal.__bases__, (PruneError,))

    def test_none_stands_under_another_one(self):
        for one in REFUSALS:
            for other in REFUSALS:
                with self.subTest(one=one.__name__, other=other.__name__):
                    self.assertEqual(issubclass(one, other), one.__name__ == other.__name__)

    def test_names_are_those_of_the_interface(self):
        told = sorted(name for name in vars(errors) if not name.startswith("__"))
        self.assertEqual(told, sorted([refusal.__name__ for refusal in REFUSALS] + ["PruneError"]))

    def test_each_is_taken_by_the_base_and_by_value_error(self):
        for refusal in REFUSALS:
            for taker in (refusal, PruneError, ValueError):
                with self.subTest(refusal=refusal.__name__, taker=taker.__name__):
                    with self.assertRaises(taker):
                        raise made(refusal)

    def test_each_is_taken_by_no_other_refusal(self):
        for refusal in REFUSALS:
            others = tuple(other for other in REFUSALS if other is not refusal)
            with self.subTest(refusal=refusal.__name__):
                self.assertNotIsInstance(made(refusal), others)

    def test_base_can_be_raised_by_itself(self):
        with self.assertRaises(ValueError) as caught:
            raise PruneError("words")
        self.assertNotIsInstance(caught.exception, REFUSALS)

    def test_no_place_has_the_place(self):
        for place in ("", "y", "nyn", "x y", "~" * 40):
            with self.subTest(place=place):
                self.assertEqual(NoPlace(place).place, place)

    def test_no_price_has_the_price(self):
        for price in ((-1, 1), (-1, 2), (-(10 ** 2999), 7), (-(10 ** 6000), 7)):
            with self.subTest(figures=price[0].bit_length()):
                self.assertTrue(NoPrice(price).price == price)

    def test_each_object_has_its_own_field(self):
        one = NoPlace("y")
        other = NoPlace("n")
        self.assertEqual((one.place, other.place), ("y", "n"))
        cheap = NoPrice((-1, 2))
        dear = NoPrice((-3, 1))
        self.assertEqual((cheap.price, dear.price), ((-1, 2), (-3, 1)))

    def test_words_can_be_shown(self):
        for refusal in REFUSALS:
            with self.subTest(refusal=refusal.__name__):
                self.assertNotEqual(str(made(refusal)), "")


if __name__ == "__main__":
    unittest.main()
