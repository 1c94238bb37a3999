"""[12] Root numbers of one field: reckoning, comparing, signs."""

import random
import unittest
from fractions import Fraction
from math import isqrt

from helps import RefusalCase, great_fraction, looks_like_number, number, pair, small_fraction
from hingedraw.errors import NoField, NoQuotient
from hingedraw.roots import (
    one_field, root_less, root_minus, root_over, root_plus, root_sign, root_times,
)

BASES = (2, 3, 6, 7, Fraction(1, 2), Fraction(2, 3), Fraction(5, 7))
NOUGHT = ((0, 1), (0, 1))


def product(one, other, base):
    return (one[0] * other[0] + one[1] * other[1] * base, one[0] * other[1] + one[1] * other[0])


def quotient(one, other, base):
    norm = other[0] ** 2 - other[1] ** 2 * base
    top = product(one, (other[0], -other[1]), base)
    return (top[0] / norm, top[1] / norm)


def sign(one, base):
    """The sign of part + portion * root(base), by whole numbers that close in on the root."""
    part, portion = one
    if portion == 0:
        return (part > 0) - (part < 0)
    scale = 1
    while True:
        low = Fraction(isqrt(scale * scale * base.numerator // base.denominator), scale)
        ends = (part + portion * low, part + portion * (low + Fraction(1, scale)))
        if min(ends) > 0:
            return 1
        if max(ends) < 0:
            return -1
        scale *= 10 ** 6


class FieldCase(RefusalCase):

    def assert_number(self, told, value, base):
        self.assertTrue(looks_like_number(told), told)
        self.assertEqual(told, number(value[0], value[1], base))

    def check(self, one, other, base):
        """One and other are (part, portion), how many times the root of base goes with part."""
        base = Fraction(base)
        mine, theirs = number(one[0], one[1], base), number(other[0], other[1], base)
        less = (one[0] - other[0], one[1] - other[1])
        self.assertIs(one_field(mine, theirs), True)
        self.assert_number(root_plus(mine, theirs), (one[0] + other[0], one[1] + other[1]), base)
        self.assert_number(root_minus(mine, theirs), less, base)
        self.assert_number(root_times(mine, theirs), product(one, other, base), base)
        self.assertIs(root_less(mine, theirs), sign(less, base) < 0)
        self.assertEqual(root_sign(mine), sign(one, base))
        if other == (0, 0):
            self.assert_refused(NoQuotient, root_over, mine, theirs)
        else:
            self.assert_number(root_over(mine, theirs), quotient(one, other, base), base)


class ReckonedTest(FieldCase):

    def test_written_out(self):
        root, back = ((0, 1), (2, 1)), ((0, 1), (-2, 1))
        self.assertEqual(root_plus(root, root), ((0, 1), (8, 1)))
        self.assertEqual(root_plus(root, back), NOUGHT)
        self.assertEqual(root_minus(root, root), NOUGHT)
        self.assertEqual(root_minus(root, back), ((0, 1), (8, 1)))
        self.assertEqual(root_minus(back, root), ((0, 1), (-8, 1)))
        self.assertEqual(root_times(root, root), ((2, 1), (0, 1)))
        self.assertEqual(root_times(root, back), ((-2, 1), (0, 1)))
        self.assertEqual(root_over(root, back), ((-1, 1), (0, 1)))
        self.assertEqual(root_over(((1, 1), (0, 1)), root), ((0, 1), (1, 2)))
        self.assertEqual(root_over(((1, 1), (0, 1)), ((1, 1), (2, 1))), ((-1, 1), (2, 1)))
        self.assertEqual(root_over(((1, 1), (0, 1)), ((1, 1), (-2, 1))), ((-1, 1), (-2, 1)))
        self.assertEqual(root_times(((1, 1), (2, 1)), ((1, 1), (-2, 1))), ((-1, 1), (0, 1)))
        self.assertEqual(root_times(((1, 1), (2, 1)), NOUGHT), NOUGHT)
        self.assertEqual(root_over(NOUGHT, ((1, 1), (2, 1))), NOUGHT)

    def test_small_ones_of_each_kind(self):
        values = [(Fraction(part), Fraction(portion)) for part in (-2, 0, 1) for portion in (-3, Fraction(-1, 2), 0, 2)]
        for base in BASES:
            for one in values:
                for other in values:
                    self.check(one, other, base)

    def test_both_plain(self):
        chance = random.Random(20)
        for turn in range(100):
            self.check((small_fraction(chance), Fraction(0)), (small_fraction(chance), Fraction(0)), 2)
            self.check((great_fraction(chance), Fraction(0)), (great_fraction(chance), Fraction(0)), 2)

    def test_one_plain(self):
        chance = random.Random(21)
        for turn in range(60):
            plain = (chance.choice((small_fraction, great_fraction))(chance), Fraction(0))
            rooted = (small_fraction(chance), great_fraction(chance))
            self.check(plain, rooted, chance.choice(BASES))
            self.check(rooted, plain, chance.choice(BASES))

    def test_unders_that_differ_by_a_square(self):
        chance = random.Random(22)
        for kind in (small_fraction, great_fraction):
            for turn in range(150):
                self.check((kind(chance), kind(chance)), (kind(chance), kind(chance)), chance.choice(BASES))

    def test_roots_that_fall_away(self):
        chance = random.Random(23)
        for kind in (small_fraction, great_fraction):
            for turn in range(50):
                part, portion, base = kind(chance), kind(chance), chance.choice(BASES)
                self.check((part, portion), (kind(chance), portion), base)
                self.check((part, portion), (kind(chance), -portion), base)
                self.check((part, portion), (part, portion), base)
                self.check((part, portion), (part, -portion), base)
                self.check((part, portion), (-part, portion), base)

    def test_undone_again(self):
        chance = random.Random(24)
        for turn in range(50):
            base = chance.choice(BASES)
            one = number(great_fraction(chance), great_fraction(chance), base)
            other = number(small_fraction(chance), great_fraction(chance), base)
            self.assertEqual(root_minus(root_plus(one, other), other), one)
            self.assertEqual(root_over(root_times(one, other), other), one)


class RefusedTest(FieldCase):

    PAIRS = (
        (((0, 1), (2, 1)), ((0, 1), (3, 1))), (((0, 1), (2, 1)), ((0, 1), (-3, 1))), (((1, 2), (-2, 1)), ((1, 2), (6, 1))),
        (((1, 1), (2, 3)), ((1, 1), (2, 1))), (((0, 1), (8, 1)), ((0, 1), (12, 1))), (((5, 1), (-2, 1)), ((5, 1), (-5, 1))),
        (((5, 1), (2, 1)), ((5, 1), (10 ** 59, 1))),
    )

    def test_unlike_fields(self):
        for one, other in self.PAIRS:
            self.assertIs(one_field(one, other), False)
            self.assertIs(one_field(other, one), False)
            for asked in (root_plus, root_minus, root_times, root_over, root_less):
                self.assert_refused(NoField, asked, one, other)
                self.assert_refused(NoField, asked, other, one)

    def test_great_unlike_fields(self):
        chance = random.Random(25)
        for turn in range(30):
            one = number(great_fraction(chance), great_fraction(chance), 2)
            other = number(great_fraction(chance), great_fraction(chance), 3)
            self.assertIs(one_field(one, other), False)
            for asked in (root_plus, root_minus, root_times, root_over, root_less):
                self.assert_refused(NoField, asked, one, other)

    def test_by_nought(self):
        for one in (NOUGHT, ((1, 1), (0, 1)), ((-1, 2), (2, 1)), ((0, 1), (-3, 1)), ((10 ** 59 + 1, 10 ** 59), (7, 1))):
            self.assert_refused(NoQuotient, root_over, one, NOUGHT)


class OneFieldTest(FieldCase):

    def test_with_a_plain_one(self):
        for plain in (NOUGHT, ((3, 1), (0, 1)), ((-1, 2), (0, 1))):
            for other in (NOUGHT, ((0, 1), (2, 1)), ((4, 5), (-3, 7)), ((-1, 2), (0, 1))):
                self.assertIs(one_field(plain, other), True)
                self.assertIs(one_field(other, plain), True)

    def test_unders_that_differ_by_a_square(self):
        for one, other in (
            ((2, 1), (8, 1)), ((2, 1), (-8, 1)), ((-2, 1), (-8, 1)), ((2, 1), (1, 2)), ((3, 1), (-1, 3)),
            ((6, 1), (2, 3)), ((6, 1), (3, 2)), ((12, 1), (27, 1)), ((2, 1), (2, 1)), ((2, 1), (-2, 1)),
        ):
            self.assertIs(one_field(((1, 1), one), ((-5, 1), other)), True)
            self.assertIs(one_field(((1, 1), other), ((-5, 1), one)), True)


class SignTest(FieldCase):

    def test_written_out(self):
        for one, told in (
            (NOUGHT, 0), (((1, 9), (0, 1)), 1), (((-1, 9), (0, 1)), -1), (((0, 1), (2, 1)), 1), (((0, 1), (-2, 1)), -1),
            (((1, 1), (2, 1)), 1), (((-1, 1), (-2, 1)), -1), (((-1, 1), (2, 1)), 1), (((1, 1), (-2, 1)), -1),
            (((-2, 1), (2, 1)), -1), (((2, 1), (-2, 1)), 1), (((-3, 2), (2, 1)), -1), (((-7, 5), (2, 1)), 1),
            (((1, 2), (-1, 3)), -1), (((-1, 2), (1, 3)), 1), (((1, 2), (-1, 5)), 1), (((-1, 2), (1, 5)), -1),
        ):
            self.assertEqual(root_sign(one), told, one)
            self.assertIs(type(root_sign(one)), int)

    def test_part_and_root_nearly_outweigh_one_another(self):
        for under in (2, 3, 7, 10 ** 59 + 7):
            for scale in (10, 10 ** 15, 10 ** 30, 10 ** 59):
                below = isqrt(under * scale * scale)
                low, high = pair(Fraction(below, scale)), pair(Fraction(below + 1, scale))
                self.assertEqual(root_sign(((-low[0], low[1]), (under, 1))), 1)
                self.assertEqual(root_sign(((-high[0], high[1]), (under, 1))), -1)
                self.assertEqual(root_sign((low, (-under, 1))), -1)
                self.assertEqual(root_sign((high, (-under, 1))), 1)
                root = ((0, 1), (under, 1))
                self.assertIs(root_less((low, (0, 1)), root), True)
                self.assertIs(root_less((high, (0, 1)), root), False)
                self.assertIs(root_less(root, (low, (0, 1))), False)
                self.assertIs(root_less(root, (high, (0, 1))), True)

    def test_less_is_no_less_of_one_and_the_same(self):
        for one in (NOUGHT, ((1, 2), (0, 1)), ((1, 2), (3, 1)), ((-1, 2), (-3, 1))):
            self.assertIs(root_less(one, one), False)


if __name__ == "__main__":
    unittest.main()
