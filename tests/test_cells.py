"""[80] Inverting cells, [81] and growing cells."""

import random
import unittest
from fractions import Fraction

from helps import (
    RefusalCase, great_fraction, looks_like_number, number, pair, plain, rooted, small_fraction, spot, worth,
)
from hingedraw.cells import growing_cell, growing_linkage, inverting_cell, inverting_linkage
from hingedraw.errors import NoMeet
from hingedraw.leads import led
from hingedraw.linkages import first_wrong, freedom, is_linkage
from hingedraw.points import side_of

HALF = Fraction(1, 2)
ORIGIN = plain(0, 0)

INVERTING = (
    # the pen in the way to the point, and against it
    (ORIGIN, plain(4, 0), (25, 1), (17, 1), (plain(3, 4), plain(3, -4), plain(2, 0))),
    (ORIGIN, plain(4, 0), (17, 1), (25, 1), (plain(1, 4), plain(1, -4), plain(-2, 0))),
    (ORIGIN, plain(-4, 0), (25, 1), (17, 1), (plain(-3, -4), plain(-3, 4), plain(-2, 0))),
    (plain(1, 2), plain(1, 6), (25, 1), (17, 1), (plain(-3, 5), plain(5, 5), plain(1, 4))),
    # the pen at the point: its way is as long as the power's root
    (ORIGIN, plain(3, 0), (25, 1), (16, 1), (plain(3, 4), plain(3, -4), plain(3, 0))),
    # the ends with roots
    (ORIGIN, plain(2, 0), (4, 1), (2, 1), (
        rooted((Fraction(3, 2), 0), (0, HALF), 7), rooted((Fraction(3, 2), 0), (0, -HALF), 7), plain(1, 0))),
    (ORIGIN, plain(0, 1), (1, 2), (1, 1), (
        rooted((0, -Fraction(1, 4)), (Fraction(1, 4), 0), 7), rooted((0, Fraction(1, 4)), (Fraction(1, 4), 0), 7),
        plain(0, -HALF))),
)

# middle, point, one square, another one: what both kinds refuse
NO_MEET = (
    (ORIGIN, ORIGIN, (4, 1), (1, 1)),
    (plain(HALF, -3), plain(HALF, -3), (1, 1), (2, 1)),
    # touching, from outside and from within
    (ORIGIN, plain(3, 0), (4, 1), (1, 1)),
    (ORIGIN, plain(1, 0), (4, 1), (1, 1)),
    (ORIGIN, plain(0, 1), (1, 1), (4, 1)),
    (plain(1, 1), plain(4, 4), (2, 1), (8, 1)),
    # too far, and too near
    (ORIGIN, plain(3, 1), (4, 1), (1, 1)),
    (ORIGIN, plain(HALF, 0), (4, 1), (1, 1)),
    (ORIGIN, plain(3, Fraction(1, 10 ** 30)), (4, 1), (1, 1)),
    (ORIGIN, plain(1 - Fraction(1, 10 ** 59), 0), (4, 1), (1, 1)),
)


def can_meet(middle, point, one, other):
    """By Fractions: two circles meet at two points just where 4 one other is above the square of what follows."""
    (x, y), (u, v) = spot(middle), spot(point)
    apart = (u - x) ** 2 + (v - y) ** 2
    return apart > 0 and 4 * worth(one) * worth(other) > (worth(one) + worth(other) - apart) ** 2


class InvertingTest(RefusalCase):

    def test_the_linkage(self):
        told = inverting_linkage((25, 1), (17, 3))
        self.assertEqual(told, (5, (0,), (
            (0, 2, (25, 1)), (0, 3, (25, 1)), (1, 2, (17, 3)), (1, 3, (17, 3)), (2, 4, (17, 3)), (3, 4, (17, 3)))))
        self.assertIs(is_linkage(told), True)
        self.assertEqual(freedom(told), 2)

    def test_places_written_out(self):
        for middle, point, outer, inner, told in INVERTING:
            self.assertEqual(inverting_cell(middle, point, outer, inner), (middle, point) + told)
            self.assertIsNone(first_wrong(inverting_linkage(outer, inner), (middle, point) + told))

    def test_what_does_not_meet(self):
        for given in NO_MEET:
            self.assert_refused(NoMeet, inverting_cell, *given)
        self.assertIs(type(inverting_cell(ORIGIN, plain(1 + Fraction(1, 10 ** 59), 0), (4, 1), (1, 1))), tuple)
        self.assertIs(type(inverting_cell(ORIGIN, plain(3 - Fraction(1, 10 ** 59), 0), (4, 1), (1, 1))), tuple)

    def test_some_cells(self):
        chance = random.Random(91)
        met = 0
        for turn in range(200):
            kind = great_fraction if turn % 20 == 0 else small_fraction
            middle, point = plain(kind(chance), kind(chance)), plain(kind(chance), kind(chance))
            outer, inner = [pair(abs(kind(chance)) * 9 or HALF) for number in range(2)]
            if outer == inner:
                continue
            if not can_meet(middle, point, outer, inner):
                self.assert_refused(NoMeet, inverting_cell, middle, point, outer, inner)
                continue
            met += 1
            place = inverting_cell(middle, point, outer, inner)
            self.assertIs(type(place), tuple)
            self.assertEqual(len(place), 5)
            self.assertEqual(place[:2], (middle, point))
            self.assertTrue(all(looks_like_number(part) for told in place for part in told))
            self.assertIsNone(first_wrong(inverting_linkage(outer, inner), place))
            self.assertEqual([side_of(middle, point, joint) for joint in place[2:]], [1, -1, 0])
            lead = ("invert", middle[0][0], middle[1][0], pair(worth(outer) - worth(inner)))
            self.assertEqual(place[4], led([lead], point))
        self.assertGreater(met, 40)


GROWING = (
    # twice, half, and against the way
    (ORIGIN, plain(6, 0), (25, 1), (25, 1), (2, 1), (plain(3, 4), plain(6, 8), plain(9, 4), plain(12, 0))),
    (ORIGIN, plain(4, 0), (25, 1), (17, 1), (1, 2), (
        plain(3, 4), plain(Fraction(3, 2), 2), plain(Fraction(5, 2), -2), plain(2, 0))),
    (ORIGIN, plain(4, 0), (25, 1), (17, 1), (-1, 1), (plain(3, 4), plain(-3, -4), plain(-2, -8), plain(-4, 0))),
    (plain(1, 2), plain(1, 6), (25, 1), (17, 1), (3, 1), (plain(-3, 5), plain(-11, 11), plain(-7, 12), plain(1, 14))),
    (ORIGIN, plain(2, 0), (4, 1), (2, 1), (2, 1), (
        rooted((Fraction(3, 2), 0), (0, HALF), 7), rooted((3, 0), (0, 1), 7), rooted((Fraction(7, 2), 0), (0, HALF), 7),
        plain(4, 0))),
)


class GrowingTest(RefusalCase):

    def test_the_linkage(self):
        told = growing_linkage((4, 1), (9, 2), (3, 1))
        self.assertEqual(told, (6, (0,), (
            (0, 2, (4, 1)), (0, 3, (36, 1)), (1, 2, (9, 2)), (1, 4, (16, 1)), (2, 3, (16, 1)), (3, 4, (9, 2)),
            (3, 5, (81, 2)), (4, 5, (18, 1)))))
        self.assertIs(is_linkage(told), True)
        self.assertEqual(freedom(told), 2)
        self.assertEqual(growing_linkage((1, 1), (1, 1), (-1, 2))[2], (
            (0, 2, (1, 1)), (0, 3, (1, 4)), (1, 2, (1, 1)), (1, 4, (9, 4)), (2, 3, (9, 4)), (3, 4, (1, 1)),
            (3, 5, (1, 4)), (4, 5, (9, 4))))

    def test_places_written_out(self):
        for middle, point, near, far, by, told in GROWING:
            self.assertEqual(growing_cell(middle, point, near, far, by), (middle, point) + told)
            self.assertIsNone(first_wrong(growing_linkage(near, far, by), (middle, point) + told))

    def test_what_does_not_meet(self):
        for given in NO_MEET:
            for by in ((2, 1), (-1, 3)):
                self.assert_refused(NoMeet, growing_cell, *given, by)
        self.assertIs(type(growing_cell(ORIGIN, plain(1 + Fraction(1, 10 ** 59), 0), (4, 1), (1, 1), (2, 1))), tuple)
        self.assertIs(type(growing_cell(ORIGIN, plain(3 - Fraction(1, 10 ** 59), 0), (4, 1), (1, 1), (2, 1))), tuple)

    def test_some_cells(self):
        chance = random.Random(92)
        met = 0
        for turn in range(200):
            kind = great_fraction if turn % 20 == 0 else small_fraction
            middle, point = plain(kind(chance), kind(chance)), plain(kind(chance), kind(chance))
            near, far = [pair(abs(kind(chance)) * 9 or HALF) for number in range(2)]
            by = pair(kind(chance))
            if by in ((0, 1), (1, 1)):
                continue
            linkage = growing_linkage(near, far, by)
            self.assertIs(is_linkage(linkage), True)
            if not can_meet(middle, point, near, far):
                self.assert_refused(NoMeet, growing_cell, middle, point, near, far, by)
                continue
            met += 1
            place = growing_cell(middle, point, near, far, by)
            self.assertIs(type(place), tuple)
            self.assertEqual(len(place), 6)
            self.assertEqual(place[:2], (middle, point))
            self.assertTrue(all(looks_like_number(part) for told in place for part in told))
            self.assertIsNone(first_wrong(linkage, place))
            self.assertEqual(side_of(middle, point, place[2]), 1)
            grow = [("grow", middle[0][0], middle[1][0], by)]
            self.assertEqual((place[3], place[5]), (led(grow, place[2]), led(grow, point)))
        self.assertGreater(met, 40)

    def test_the_pen_is_plain(self):
        place = growing_cell(ORIGIN, plain(2, 0), (4, 1), (2, 1), (5, 3))
        self.assertEqual(place[5], (number(Fraction(10, 3)), number(0)))
        self.assertEqual(inverting_cell(ORIGIN, plain(2, 0), (4, 1), (2, 1))[4], (number(1), number(0)))


if __name__ == "__main__":
    unittest.main()
