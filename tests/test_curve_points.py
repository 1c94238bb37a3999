"""[61] Points on curves: what a side comes to, and the curves of lines and circles."""

import copy
import random
import unittest
from fractions import Fraction

from helps import (
    RefusalCase, curve, great_fraction, looks_like_number, looks_normal, number, pair, plain, rooted, side_at,
    small_fraction, some_curve, worth,
)
from hingedraw.curves import circle_about, line_through, normal, on_curve, value_at
from hingedraw.errors import NoMeet
from hingedraw.points import circles_meet, like_at, line_meets

BASES = (2, 3, 5, 12, Fraction(2, 3), Fraction(7, 4))
# The round of 2 about (0, 0), and y less x.
ROUND = curve({(2, 0): 1, (0, 2): 1, (0, 0): -2})
EVEN = curve({(0, 1): 1, (1, 0): -1})
NOUGHT = ((0, 1), (0, 1))


def by_root(one, other, base):
    return (one[0] * other[0] + one[1] * other[1] * base, one[0] * other[1] + one[1] * other[0])


def side_by_root(told, x, y, base):
    """(part, portion) of the side at a point whose numbers are (part, portion) too."""
    total = (Fraction(0), Fraction(0))
    for (i, j), fraction in told.items():
        term = (worth(fraction), Fraction(0))
        for turn in range(i):
            term = by_root(term, x, base)
        for turn in range(j):
            term = by_root(term, y, base)
        total = (total[0] + term[0], total[1] + term[1])
    return total


class ValueTest(unittest.TestCase):

    def test_written_out(self):
        self.assertEqual(value_at(ROUND, plain(3, Fraction(1, 2))), number(Fraction(29, 4)))
        self.assertEqual(value_at(ROUND, plain(1, -1)), NOUGHT)
        self.assertEqual(value_at(ROUND, rooted((0, 1), (0, 0), 2)), NOUGHT)
        self.assertEqual(value_at(ROUND, rooted((1, 1), (0, 1), 2)), number(3, 2, 2))
        self.assertEqual(value_at(EVEN, rooted((1, 1), (0, -2), 5)), number(-1, -3, 5))
        self.assertEqual(value_at(EVEN, rooted((1, 1), (3, 1), 5)), number(2))
        self.assertEqual(value_at({(1, 1): (1, 2)}, rooted((0, 1), (0, -1), 3)), number(Fraction(-3, 2)))
        self.assertEqual(value_at({(3, 0): (1, 1)}, rooted((0, -1), (0, 0), 2)), number(0, -2, 2))

    def test_of_nothing_and_of_one_number(self):
        for point in (plain(0, 0), plain(2, 3), rooted((1, 1), (0, 2), 3)):
            self.assertEqual(value_at({}, point), NOUGHT)
            self.assertIs(on_curve({}, point), True)
            self.assertEqual(value_at({(0, 0): (-5, 3)}, point), number(Fraction(-5, 3)))
            self.assertIs(on_curve({(0, 0): (-5, 3)}, point), False)

    def test_at_nought(self):
        self.assertEqual(value_at(curve({(2, 1): 5, (0, 0): 7}), plain(0, 0)), number(7))
        self.assertEqual(value_at(curve({(0, 1): 5, (3, 0): 7}), rooted((0, 0), (0, 1), 2)), number(0, 5, 2))

    def test_plain_points(self):
        chance = random.Random(230)
        for kind in (small_fraction, great_fraction):
            for turn in range(60):
                told = some_curve(chance, 3, kind)
                x, y = kind(chance), kind(chance)
                side = side_at(told, x, y)
                self.assertEqual(value_at(told, plain(x, y)), number(side))
                self.assertIs(on_curve(told, plain(x, y)), side == 0)

    def test_points_with_roots(self):
        chance = random.Random(231)
        for kind, many in ((small_fraction, 120), (great_fraction, 12)):
            for turn in range(many):
                base = chance.choice(BASES)
                told = some_curve(chance, 3, kind)
                x, y = [(kind(chance), kind(chance) * chance.choice((0, 1, 1))) for turn in range(2)]
                side = side_by_root(told, x, y, Fraction(base))
                value = value_at(told, rooted(x, y, base))
                self.assertEqual(value, number(side[0], side[1], base))
                self.assertTrue(looks_like_number(value))
                self.assertIs(on_curve(told, rooted(x, y, base)), side == (0, 0))

    def test_numbers_of_one_field_by_unlike_roots(self):
        # The roots of 2, 8 and 1/2 are of one field.
        point = (number(1, 1, 8), number(0, -1, Fraction(1, 2)))
        self.assertEqual(value_at(EVEN, point), number(-1, Fraction(-5, 2), 2))
        self.assertEqual(value_at({(1, 1): (1, 1)}, point), number(-2, Fraction(-1, 2), 2))

    def test_on_and_off(self):
        for point, told in (
            (plain(1, 1), True), (plain(-1, 1), True), (plain(1, 0), False),
            (plain(Fraction(7, 5), Fraction(1, 5)), True), (plain(Fraction(7, 5), Fraction(1, 6)), False),
            (rooted((0, 1), (0, 0), 2), True), (rooted((0, 0), (0, -1), 2), True), (rooted((0, 1), (0, 1), 2), False),
            (rooted((Fraction(1, 2), Fraction(1, 2)), (Fraction(1, 2), Fraction(-1, 2)), 3), True),
            (rooted((Fraction(1, 2), Fraction(1, 2)), (Fraction(1, 2), Fraction(1, 2)), 3), False),
        ):
            self.assertIs(on_curve(ROUND, point), told, point)
        # Part or root alone may fall away.
        self.assertIs(on_curve(curve({(1, 0): 1}), rooted((0, 1), (0, 0), 2)), False)
        self.assertIs(on_curve(curve({(1, 0): 1, (0, 1): -1}), rooted((1, 1), (0, 1), 2)), False)
        self.assertIs(on_curve(curve({(1, 0): 1, (0, 1): -1}), rooted((1, 1), (1, 2), 2)), False)

    def test_a_hair_beside(self):
        tiny = Fraction(1, 10 ** 59)
        self.assertIs(on_curve(ROUND, plain(1, 1 + tiny)), False)
        self.assertIs(on_curve(ROUND, rooted((tiny, 1), (0, 0), 2)), False)
        self.assertIs(on_curve(ROUND, rooted((0, 1 + tiny), (0, 0), 2)), False)

    def test_great_powers_of_nought_and_one(self):
        far = 10 ** 59
        told = curve({(far, 0): 2, (0, far + 1): 3})
        self.assertEqual(value_at(told, plain(1, -1)), number(-1))
        self.assertEqual(value_at(told, plain(0, 1)), number(3))
        self.assertIs(on_curve(told, plain(0, 0)), True)

    def test_what_is_handed_in_is_unchanged(self):
        told = some_curve(random.Random(232), 4)
        before = copy.deepcopy(told)
        for point in (plain(2, 3), rooted((1, 2), (3, 4), 5)):
            first = value_at(told, point)
            on_curve(told, point)
            self.assertEqual(told, before)
            self.assertEqual(value_at(told, point), first)


class LineTest(RefusalCase):

    def test_written_out(self):
        for one, other, told in (
            ((0, 0), (1, 1), {(1, 0): 1, (0, 1): -1}), ((1, 1), (0, 0), {(1, 0): 1, (0, 1): -1}),
            ((2, 0), (2, 5), {(1, 0): 1, (0, 0): -2}), ((0, 3), (0, -1), {(1, 0): 1}),
            ((-1, 4), (6, 4), {(0, 1): 1, (0, 0): -4}), ((3, 0), (-1, 0), {(0, 1): 1}),
            ((0, Fraction(1, 3)), (Fraction(1, 2), 0), {(1, 0): 2, (0, 1): 3, (0, 0): -1}),
            ((Fraction(-2, 3), 7), (Fraction(-2, 3), 8), {(1, 0): 3, (0, 0): 2}),
            ((5, Fraction(-1, 4)), (9, Fraction(-1, 4)), {(0, 1): 4, (0, 0): 1}),
        ):
            self.assertEqual(line_through(plain(*one), plain(*other)), curve(told))

    def test_some(self):
        chance = random.Random(233)
        for kind in (small_fraction, great_fraction):
            for turn in range(60):
                x, y, u, v = [kind(chance) for turn in range(4)]
                if (x, y) == (u, v):
                    continue
                told = line_through(plain(x, y), plain(u, v))
                self.assertTrue(looks_normal(told))
                self.assertLessEqual(set(told), {(1, 0), (0, 1), (0, 0)})
                self.assertEqual((side_at(told, x, y), side_at(told, u, v)), (0, 0))
                self.assertEqual(line_through(plain(u, v), plain(x, y)), told)
                along = like_at(plain(x, y), plain(u, v), pair(kind(chance)), (0, 1))
                self.assertIs(on_curve(told, along), True)
                beside = like_at(plain(x, y), plain(u, v), pair(kind(chance)), (1, 10 ** 59))
                self.assertIs(on_curve(told, beside), False)

    def test_one_point_twice(self):
        for x, y in ((0, 0), (3, Fraction(1, 2)), (great_fraction(random.Random(234)), 1)):
            self.assert_refused(NoMeet, line_through, plain(x, y), plain(x, y))
        self.assertEqual(line_through(plain(3, 1), plain(3, 2)), curve({(1, 0): 1, (0, 0): -3}))


class CircleTest(unittest.TestCase):

    def test_written_out(self):
        for middle, square, told in (
            ((0, 0), 1, {(2, 0): 1, (0, 2): 1, (0, 0): -1}),
            ((0, 0), Fraction(2, 3), {(2, 0): 3, (0, 2): 3, (0, 0): -2}),
            ((3, 4), 25, {(2, 0): 1, (0, 2): 1, (1, 0): -6, (0, 1): -8}),
            ((1, 0), 4, {(2, 0): 1, (0, 2): 1, (1, 0): -2, (0, 0): -3}),
            ((0, Fraction(-1, 2)), 1, {(2, 0): 4, (0, 2): 4, (0, 1): 4, (0, 0): -3}),
            ((Fraction(1, 2), Fraction(1, 3)), Fraction(1, 36), {
                (2, 0): 3, (0, 2): 3, (1, 0): -3, (0, 1): -2, (0, 0): 1,
            }),
        ):
            self.assertEqual(circle_about(plain(*middle), pair(square)), curve(told))

    def test_some(self):
        chance = random.Random(235)
        for kind in (small_fraction, great_fraction):
            for turn in range(60):
                x, y, square = kind(chance), kind(chance), abs(kind(chance)) or Fraction(2)
                told = circle_about(plain(x, y), pair(square))
                self.assertTrue(looks_normal(told))
                u, v = kind(chance), kind(chance)
                by = worth(told[(2, 0)])
                self.assertEqual(side_at(told, u, v), by * ((u - x) ** 2 + (v - y) ** 2 - square))
                self.assertEqual(normal(told), told)

    def test_where_circles_and_lines_meet(self):
        chance = random.Random(236)
        seen = 0
        for turn in range(80):
            one, other = [plain(chance.randint(-3, 3), small_fraction(chance)) for turn in range(2)]
            if one == other:
                continue
            near, far = (chance.randint(1, 30), chance.randint(1, 3)), (chance.randint(1, 40), 1)
            near = pair(Fraction(*near))
            for point in circles_meet(one, near, other, far):
                self.assertIs(on_curve(circle_about(one, near), point), True)
                self.assertIs(on_curve(circle_about(other, far), point), True)
                self.assertIs(on_curve(circle_about(other, (far[0] + 1, 1)), point), False)
                seen += 1
            for point in line_meets(one, other, plain(1, 1), far):
                self.assertIs(on_curve(line_through(one, other), point), True)
                self.assertIs(on_curve(circle_about(plain(1, 1), far), point), True)
                seen += 1
        self.assertGreater(seen, 60)


if __name__ == "__main__":
    unittest.main()
