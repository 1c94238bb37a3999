"""[20], [21] Points: how far apart, along and to the left of a way, on which side."""

import random
import unittest
from fractions import Fraction
from math import isqrt

from helps import RefusalCase, great_fraction, looks_like_number, number, pair, plain, rooted, small_fraction
from hingedraw.errors import NoField
from hingedraw.points import like_at, side_of, square_apart

BASES = (2, 3, 5, Fraction(2, 3))
ORIGIN = plain(0, 0)

# Two points of unlike fields each, with the roots at each place of theirs.
UNLIKE = (
    (rooted((0, 1), (0, 0), 2), rooted((0, 1), (0, 0), 3)),
    (rooted((0, 1), (0, 0), 2), rooted((0, 0), (0, 1), 3)),
    (rooted((0, 0), (0, 1), 2), rooted((0, 1), (0, 0), 3)),
    (rooted((0, 0), (0, 1), 2), rooted((0, 0), (0, 1), 3)),
    (rooted((1, 1), (2, 1), 2), rooted((1, -1), (2, 3), 6)),
    (rooted((1, 1), (2, -1), 2), rooted((5, 0), (2, 3), Fraction(2, 3))),
    (rooted((0, 1), (0, 0), 5), rooted((0, 0), (0, 1), Fraction(3, 5))),
)


def product(one, other, base):
    return (one[0] * other[0] + one[1] * other[1] * base, one[0] * other[1] + one[1] * other[0])


def total(one, other):
    return (one[0] + other[0], one[1] + other[1])


def less(one, other):
    return (one[0] - other[0], one[1] - other[1])


def grown(one, by):
    return (one[0] * by, one[1] * by)


def way(one, other):
    return (less(other[0], one[0]), less(other[1], one[1]))


def some_point(chance, kind=small_fraction, root=True):
    """Two (part, portion), to be taken with one base."""
    return tuple((kind(chance), kind(chance) if root and chance.random() < 0.7 else Fraction(0)) for turn in range(2))


def sign(one, base):
    """The sign of part + portion * root(base), by sixty figures and more of the root."""
    if one[1] == 0:
        return (one[0] > 0) - (one[0] < 0)
    scale = 10 ** 400
    root = Fraction(isqrt(scale * scale * Fraction(base).numerator // Fraction(base).denominator), scale)
    value = one[0] + one[1] * root
    return 1 if value > 0 else -1


class SquareApartTest(RefusalCase):

    def test_written_out(self):
        for one, other, told in (
            (plain(0, 0), plain(3, 4), number(25)), (plain(3, 4), plain(0, 0), number(25)),
            (plain(-1, 2), plain(-1, 2), number(0)), (plain(1, 1), plain(1, Fraction(-1, 2)), number(Fraction(9, 4))),
            (ORIGIN, rooted((0, 1), (0, 1)), number(4)), (ORIGIN, rooted((0, 1), (0, -1)), number(4)),
            (ORIGIN, rooted((1, 1), (0, 0)), number(3, 2)), (plain(1, 0), rooted((0, 1), (0, 0)), number(3, -2)),
            (rooted((0, 1), (0, 0)), rooted((0, 0), (0, 1)), number(4)),
            (rooted((1, 1), (2, 3)), rooted((1, 1), (2, 3)), number(0)),
            (rooted((1, 1), (2, 3)), rooted((1, -1), (2, 0)), number(26)),
        ):
            self.assertEqual(square_apart(one, other), told)

    def check(self, one, other, base):
        x, y = way(one, other)
        told = square_apart(rooted(*one, base), rooted(*other, base))
        self.assertTrue(looks_like_number(told))
        value = total(product(x, x, base), product(y, y, base))
        self.assertEqual(told, number(value[0], value[1], base))

    def test_some(self):
        chance = random.Random(40)
        for kind in (small_fraction, great_fraction):
            for turn in range(80):
                for root in (True, False):
                    self.check(some_point(chance, kind, root), some_point(chance, kind, root), chance.choice(BASES))

    def test_one_point_twice(self):
        chance = random.Random(41)
        for turn in range(40):
            one = some_point(chance, great_fraction)
            self.check(one, one, chance.choice(BASES))

    def test_unlike_fields_are_refused(self):
        for one, other in UNLIKE:
            self.assert_refused(NoField, square_apart, one, other)
            self.assert_refused(NoField, square_apart, other, one)


class LikeAtTest(RefusalCase):

    def test_written_out(self):
        for one, other, along, left, told in (
            (plain(0, 0), plain(2, 1), (1, 1), (0, 1), plain(2, 1)),
            (plain(0, 0), plain(2, 1), (0, 1), (1, 1), plain(-1, 2)),
            (plain(0, 0), plain(2, 1), (0, 1), (-1, 1), plain(1, -2)),
            (plain(0, 0), plain(2, 1), (-1, 1), (0, 1), plain(-2, -1)),
            (plain(5, 6), plain(2, 1), (0, 1), (0, 1), plain(5, 6)),
            (plain(1, 1), plain(3, 1), (1, 2), (1, 2), plain(2, 2)),
            (plain(3, 1), plain(1, 1), (1, 2), (1, 2), plain(2, 0)),
            (plain(1, 2), plain(1, 2), (7, 3), (-5, 2), plain(1, 2)),
            (ORIGIN, rooted((0, 1), (0, 0)), (1, 2), (1, 1), rooted((0, Fraction(1, 2)), (0, 1))),
            (ORIGIN, rooted((0, 1), (0, 0)), (0, 1), (-3, 1), rooted((0, 0), (0, -3))),
            (rooted((1, 1), (0, 1)), rooted((1, 1), (3, 1)), (0, 1), (1, 1), rooted((-2, 1), (0, 1))),
            (rooted((0, 1), (0, 0)), ORIGIN, (1, 1), (0, 1), ORIGIN),
        ):
            self.assertEqual(like_at(one, other, along, left), told)

    def check(self, one, other, along, left, base):
        u, v = way(one, other)
        x = total(one[0], less(grown(u, along), grown(v, left)))
        y = total(one[1], total(grown(v, along), grown(u, left)))
        told = like_at(rooted(*one, base), rooted(*other, base), pair(along), pair(left))
        self.assertTrue(looks_like_number(told[0]) and looks_like_number(told[1]))
        self.assertEqual(told, rooted(x, y, base))

    def test_some(self):
        chance = random.Random(42)
        for kind in (small_fraction, great_fraction):
            for turn in range(80):
                for root in (True, False):
                    self.check(some_point(chance, kind, root), some_point(chance, kind, root), kind(chance),
                               kind(chance),
                               chance.choice(BASES))

    def test_noughts(self):
        chance = random.Random(43)
        for turn in range(40):
            one, other = some_point(chance), some_point(chance)
            for along in (0, 1, -1):
                for left in (0, 1, -1):
                    self.check(one, other, Fraction(along), Fraction(left), chance.choice(BASES))
                    self.check(one, one, Fraction(along), Fraction(left), chance.choice(BASES))

    def test_unlike_fields_are_refused(self):
        for one, other in UNLIKE:
            for along in ((0, 1), (1, 1), (1, 2)):
                for left in ((0, 1), (-1, 3)):
                    self.assert_refused(NoField, like_at, one, other, along, left)
                    self.assert_refused(NoField, like_at, other, one, along, left)


class SideOfTest(RefusalCase):

    def test_written_out(self):
        low = Fraction(141421356237309504880168872420969807, 10 ** 35)
        high = low + Fraction(1, 10 ** 35)
        for one, other, third, told in (
            (plain(0, 0), plain(1, 0), plain(5, 1), 1), (plain(0, 0), plain(1, 0), plain(5, -1), -1),
            (plain(0, 0), plain(1, 0), plain(-5, 0), 0), (plain(1, 0), plain(0, 0), plain(5, 1), -1),
            (plain(0, 0), plain(0, 1), plain(1, 0), -1), (plain(0, 0), plain(0, 1), plain(-1, 7), 1),
            (plain(1, 1), plain(3, 2), plain(7, 4), 0), (plain(1, 1), plain(3, 2), plain(1, 1), 0),
            (plain(1, 1), plain(3, 2), plain(3, 2), 0), (plain(4, 4), plain(4, 4), plain(9, 1), 0),
            (plain(4, 4), plain(4, 4), plain(4, 4), 0),
            (rooted((0, 1), (1, 0)), rooted((0, 1), (1, 0)), plain(9, 1), 0),
            (ORIGIN, rooted((0, 1), (0, 1)), plain(7, 7), 0),
            (ORIGIN, rooted((1, 0), (0, 1)), rooted((0, 1), (2, 0)), 0),
            (ORIGIN, rooted((1, 0), (0, 1)), plain(1, high), 1), (ORIGIN, rooted((1, 0), (0, 1)), plain(1, low), -1),
            (rooted((1, 0), (0, 1)), ORIGIN, plain(1, high), -1), (rooted((1, 0), (0, 1)), ORIGIN, plain(1, low), 1),
        ):
            self.assertEqual(side_of(one, other, third), told)

    def test_a_little_beside_the_line(self):
        little = Fraction(1, 10 ** 59)
        chance = random.Random(44)
        for turn in range(60):
            base = chance.choice(BASES)
            one, other = some_point(chance), some_point(chance)
            if one == other:
                continue
            u, v = way(one, other)
            by = small_fraction(chance)
            for aside, told in ((little, 1), (-little, -1), (Fraction(0), 0)):
                third = (total(one[0], less(grown(u, by), grown(v, aside))),
                         total(one[1], total(grown(v, by), grown(u, aside))))
                self.assertEqual(side_of(rooted(*one, base), rooted(*other, base), rooted(*third, base)), told)

    def test_some(self):
        chance = random.Random(45)
        seen = set()
        for kind in (small_fraction, great_fraction):
            for turn in range(80):
                for root in (True, False):
                    base = chance.choice(BASES)
                    one, other, third = (some_point(chance, kind, root) for part in range(3))
                    (u, v), (x, y) = way(one, other), way(one, third)
                    told = side_of(rooted(*one, base), rooted(*other, base), rooted(*third, base))
                    self.assertIs(type(told), int)
                    self.assertEqual(told, sign(less(product(u, y, base), product(v, x, base)), base))
                    seen.add(told)
        self.assertTrue({1, -1} <= seen)

    def test_unlike_fields_are_refused(self):
        for one, other in UNLIKE:
            for third in (ORIGIN, one, other):
                for given in ((one, other, third), (other, third, one), (third, one, other)):
                    self.assert_refused(NoField, side_of, *given)
        # Roots that would meet a factor of 0 alone.
        self.assert_refused(NoField, side_of, rooted((0, 1), (0, 0), 2), rooted((0, 1), (0, 0), 2),
                            rooted((0, 1), (0, 0), 3))
        self.assert_refused(NoField, side_of, ORIGIN, rooted((0, 1), (0, 0), 2), rooted((0, 1), (0, 0), 3))


if __name__ == "__main__":
    unittest.main()
