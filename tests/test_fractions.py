"""[10] Fractions: lowest terms, reckoning, roots of whole numbers and of fractions."""

import operator
import random
import unittest
from fractions import Fraction
from math import isqrt

from helps import RefusalCase, great_fraction, looks_like_fraction, pair, sixty_figures, small_fraction
from hingedraw.errors import NoQuotient
from hingedraw.fractions import minus, over, plus, ratio, root_in, times, whole_root

RECKONED = ((plus, operator.add), (minus, operator.sub), (times, operator.mul), (over, operator.truediv))


class FractionCase(RefusalCase):

    def assert_fraction(self, told, value):
        self.assertTrue(looks_like_fraction(told), told)
        self.assertEqual(told, pair(value))

    def assert_no_quotient(self, asked, *given):
        self.assert_refused(NoQuotient, asked, *given)


class RatioTest(FractionCase):

    def test_written_out(self):
        for top, bottom, told in (
            (6, 4, (3, 2)), (-6, 4, (-3, 2)), (6, -4, (-3, 2)), (-6, -4, (3, 2)),
            (0, 7, (0, 1)), (0, -7, (0, 1)), (5, 1, (5, 1)), (5, -1, (-5, 1)), (7, 7, (1, 1)), (1, 3, (1, 3)),
        ):
            self.assertEqual(ratio(top, bottom), told)

    def test_all_small_ones(self):
        for top in range(-30, 31):
            for bottom in range(-30, 31):
                if bottom != 0:
                    self.assert_fraction(ratio(top, bottom), Fraction(top, bottom))

    def test_sixty_figures(self):
        chance = random.Random(10)
        for turn in range(200):
            top, bottom, shared = sixty_figures(chance), sixty_figures(chance), chance.randint(1, 10 ** 30)
            self.assert_fraction(ratio(top, bottom), Fraction(top, bottom))
            self.assert_fraction(ratio(top * shared, bottom * shared), Fraction(top, bottom))
        self.assert_fraction(ratio(10 ** 60 - 1, 3 ** 100), Fraction(10 ** 60 - 1, 3 ** 100))

    def test_by_nought_is_refused(self):
        for top in (-10 ** 59, -2, -1, 0, 1, 2, 10 ** 59):
            self.assert_no_quotient(ratio, top, 0)

    def test_refusal_of_what_is_too_long_to_be_written(self):
        self.assert_no_quotient(ratio, 10 ** 9000, 0)


class ReckonedTest(FractionCase):

    def test_written_out(self):
        self.assertEqual(plus((1, 6), (1, 3)), (1, 2))
        self.assertEqual(plus((1, 2), (-1, 2)), (0, 1))
        self.assertEqual(minus((1, 6), (2, 3)), (-1, 2))
        self.assertEqual(minus((3, 4), (3, 4)), (0, 1))
        self.assertEqual(times((2, 3), (-3, 4)), (-1, 2))
        self.assertEqual(times((0, 1), (-3, 4)), (0, 1))
        self.assertEqual(over((2, 3), (-4, 3)), (-1, 2))
        self.assertEqual(over((-2, 3), (-4, 3)), (1, 2))
        self.assertEqual(over((0, 1), (-4, 3)), (0, 1))

    def check(self, one, other):
        for asked, meant in RECKONED:
            if asked is over and other == 0:
                self.assert_no_quotient(over, pair(one), pair(other))
            else:
                self.assert_fraction(asked(pair(one), pair(other)), meant(one, other))

    def test_all_small_ones(self):
        values = sorted({Fraction(top, bottom) for top in range(-6, 7) for bottom in range(1, 7)})
        for one in values:
            for other in values:
                self.check(one, other)

    def test_some_figures_and_sixty(self):
        chance = random.Random(11)
        for turn in range(300):
            self.check(great_fraction(chance), great_fraction(chance))
            self.check(great_fraction(chance), small_fraction(chance))
            self.check(small_fraction(chance), great_fraction(chance))
            self.check(Fraction(chance.randint(-10 ** 6, 10 ** 6), chance.randint(1, 10 ** 6)), small_fraction(chance))

    def test_great_ones_that_fall_away(self):
        chance = random.Random(12)
        for turn in range(50):
            one = great_fraction(chance)
            self.check(one, one)
            self.check(one, -one)
            self.check(one, 1 / one)

    def test_by_nought_is_refused(self):
        for one in ((0, 1), (1, 1), (-3, 7), (10 ** 59 + 1, 10 ** 59)):
            self.assert_no_quotient(over, one, (0, 1))


class WholeRootTest(unittest.TestCase):

    def test_small_ones(self):
        for whole in range(2000):
            root = whole_root(whole)
            self.assertIs(type(root), int)
            self.assertTrue(root >= 0 and root * root <= whole < (root + 1) * (root + 1), whole)

    def test_nought(self):
        self.assertEqual(whole_root(0), 0)

    def test_squares_and_their_neighbours(self):
        for root in (2, 3, 4, 10, 255, 256, 257, 2 ** 26 + 1, 2 ** 32, 2 ** 53 + 1, 10 ** 30 - 1, 10 ** 30,
                     10 ** 60 - 1):
            self.assertEqual(whole_root(root * root - 1), root - 1)
            self.assertEqual(whole_root(root * root), root)
            self.assertEqual(whole_root(root * root + 1), root)
            self.assertEqual(whole_root(root * root + 2 * root), root)

    def test_about_powers_of_two(self):
        for many in range(1, 260):
            for whole in (2 ** many - 1, 2 ** many, 2 ** many + 1):
                self.assertEqual(whole_root(whole), isqrt(whole))

    def test_great_ones(self):
        chance = random.Random(13)
        for figures in (20, 40, 59, 60, 61, 500, 5000):
            for turn in range(10):
                whole = chance.randrange(10 ** figures)
                self.assertEqual(whole_root(whole), isqrt(whole))


class RootInTest(unittest.TestCase):

    def test_written_out(self):
        for one, told in (
            ((0, 1), (0, 1)), ((1, 1), (1, 1)), ((4, 1), (2, 1)), ((1, 4), (1, 2)), ((9, 16), (3, 4)),
            ((2, 1), None), ((1, 2), None), ((4, 3), None), ((3, 4), None), ((2, 3), None), ((8, 1), None),
            ((1, 8), None),
        ):
            self.assertEqual(root_in(one), told)

    def test_all_small_ones(self):
        squares = {Fraction(top, bottom) ** 2: Fraction(top, bottom) for top in range(8) for bottom in range(1, 8)}
        for top in range(50):
            for bottom in range(1, 50):
                one = Fraction(top, bottom)
                told = root_in(pair(one))
                self.assertEqual(told, pair(squares[one]) if one in squares else None, one)

    def test_great_ones(self):
        chance = random.Random(14)
        for turn in range(100):
            root = abs(great_fraction(chance))
            self.assertEqual(root_in(pair(root * root)), pair(root))
            self.assertTrue(looks_like_fraction(root_in(pair(root * root))))
            top, bottom = pair(root * root)
            self.assertIsNone(root_in(pair(Fraction(top + 1, bottom))))
            self.assertIsNone(root_in(pair(Fraction(top, bottom + 1))))
            self.assertIsNone(root_in(pair(2 * root * root)))


if __name__ == "__main__":
    unittest.main()
