"""Fractions: [10]. Python's own fractions say what is right."""

import inspect
import math
import unittest
from fractions import Fraction

from cutlands import fractions
from cutlands.errors import CutError, NoFraction
from cutlands.fractions import ceiling_of, floor_of, less, made, minus, over, plus, times

SMALL = range(-7, 8)
# Sixty figures each; the first two have the large common divisor GREAT.
GREAT = 10 ** 29 + 37
LARGE = [GREAT * (10 ** 30 + 1), GREAT * (10 ** 30 + 7), 10 ** 60 - 1, 10 ** 59 + 1, 2 ** 199]


def as_pair(fraction):
    return (fraction.numerator, fraction.denominator)


def some_fractions():
    pairs = [(0, 1), (1, 1), (-1, 1), (2, 1), (-3, 1), (1, 2), (-1, 2), (2, 3), (-5, 3), (7, 6), (-7, 4)]
    larges = [Fraction(top, bottom) for top in LARGE for bottom in LARGE[:2]]
    return pairs + [as_pair(one) for one in larges] + [as_pair(-one) for one in larges]


class FractionCase(unittest.TestCase):
    def check_fraction(self, answer, right):
        self.assertIs(type(answer), tuple)
        self.assertEqual([type(number) for number in answer], [int, int])
        self.assertEqual(answer, as_pair(right))
        self.assertGreaterEqual(answer[1], 1)
        self.assertEqual(math.gcd(answer[0], answer[1]), 1)


class Made(FractionCase):
    def test_small_ones_of_all_signs(self):
        for top in SMALL:
            for bottom in SMALL:
                if bottom != 0:
                    with self.subTest(top=top, bottom=bottom):
                        self.check_fraction(made(top, bottom), Fraction(top, bottom))

    def test_ones_of_sixty_figures(self):
        for top in LARGE:
            for bottom in LARGE:
                for turn in (1, -1):
                    for other_turn in (1, -1):
                        right = Fraction(turn * top, other_turn * bottom)
                        self.check_fraction(made(turn * top, other_turn * bottom), right)

    def test_written_out(self):
        self.assertEqual(made(6, 4), (3, 2))
        self.assertEqual(made(6, -4), (-3, 2))
        self.assertEqual(made(-6, 4), (-3, 2))
        self.assertEqual(made(-6, -4), (3, 2))
        self.assertEqual(made(-8, 2), (-4, 1))
        self.assertEqual(made(10 ** 59, -(2 * 10 ** 58)), (-5, 1))

    def test_nought(self):
        for bottom in (1, -1, 5, -12, 10 ** 60 - 1, 1 - 10 ** 60):
            self.assertEqual(made(0, bottom), (0, 1))

    def test_bottom_of_nought_is_refused(self):
        for top in (0, 1, -1, 10 ** 60 - 1):
            with self.assertRaises(NoFraction):
                made(top, 0)


class Reckoning(FractionCase):
    def check_all(self, told, right):
        for one in some_fractions():
            for other in some_fractions():
                with self.subTest(one=one, other=other):
                    self.check_fraction(told(one, other), right(Fraction(*one), Fraction(*other)))

    def test_plus(self):
        self.check_all(plus, lambda one, other: one + other)

    def test_minus(self):
        self.check_all(minus, lambda one, other: one - other)

    def test_times(self):
        self.check_all(times, lambda one, other: one * other)

    def test_over(self):
        for one in some_fractions():
            for other in some_fractions():
                if other != (0, 1):
                    with self.subTest(one=one, other=other):
                        self.check_fraction(over(one, other), Fraction(*one) / Fraction(*other))

    def test_written_out(self):
        self.assertEqual(plus((1, 6), (1, 3)), (1, 2))
        self.assertEqual(plus((1, 2), (-1, 2)), (0, 1))
        self.assertEqual(minus((1, 2), (5, 6)), (-1, 3))
        self.assertEqual(times((-2, 3), (9, 4)), (-3, 2))
        self.assertEqual(times((0, 1), (-9, 4)), (0, 1))
        self.assertEqual(over((1, 2), (-3, 4)), (-2, 3))
        self.assertEqual(over((0, 1), (-3, 4)), (0, 1))

    def test_over_nought_is_refused(self):
        for one in some_fractions():
            with self.assertRaises(NoFraction):
                over(one, (0, 1))

    def test_a_refusal_leaves_all_as_it_was(self):
        before = over((1, 2), (-3, 4))
        for question in (lambda: over((1, 2), (0, 1)), lambda: made(1, 0)):
            with self.assertRaises(CutError):
                question()
        self.assertEqual(over((1, 2), (-3, 4)), before)


class Order(unittest.TestCase):
    def test_less_of_all_pairs(self):
        for one in some_fractions():
            for other in some_fractions():
                with self.subTest(one=one, other=other):
                    self.assertIs(less(one, other), Fraction(*one) < Fraction(*other))

    def test_less_of_near_ones(self):
        low = (10 ** 59, 10 ** 59 + 1)
        high = (10 ** 59 + 1, 10 ** 59 + 2)
        self.assertIs(less(low, high), True)
        self.assertIs(less(high, low), False)
        self.assertIs(less(low, low), False)

    def test_less_below_nought(self):
        self.assertIs(less((-1, 2), (-1, 3)), True)
        self.assertIs(less((-1, 3), (-1, 2)), False)
        self.assertIs(less((0, 1), (0, 1)), False)

    def test_floor_and_ceiling_of_all(self):
        for one in some_fractions():
            with self.subTest(one=one):
                self.assertIs(type(floor_of(one)), int)
                self.assertIs(type(ceiling_of(one)), int)
                self.assertEqual(floor_of(one), math.floor(Fraction(*one)))
                self.assertEqual(ceiling_of(one), math.ceil(Fraction(*one)))

    def test_floor_and_ceiling_written_out(self):
        for one, low, high in [
            ((7, 2), 3, 4), ((-7, 2), -4, -3), ((0, 1), 0, 0), ((5, 1), 5, 5), ((-5, 1), -5, -5),
            ((1, 10), 0, 1), ((-1, 10), -1, 0), ((10 ** 59 + 1, 10), 10 ** 58, 10 ** 58 + 1),
        ]:
            self.assertEqual((floor_of(one), ceiling_of(one)), (low, high))


class Interface(unittest.TestCase):
    def test_names_and_arguments(self):
        two = ["one", "other"]
        for name, arguments in [
            ("made", ["top", "bottom"]), ("plus", two), ("minus", two), ("times", two), ("over", two),
            ("less", two), ("floor_of", ["one"]), ("ceiling_of", ["one"]),
        ]:
            told = list(inspect.signature(getattr(fractions, name)).parameters)
            self.assertEqual(told, arguments, name)


if __name__ == "__main__":
    unittest.main()
