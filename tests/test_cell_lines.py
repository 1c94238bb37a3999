"""[82] Points that go round and the line of the pen, [83] lines that cells draw."""

import copy
import random
import unittest
from fractions import Fraction

from helps import (
    RefusalCase, curve, great_fraction, looks_like_fraction, looks_normal, pair, plain, small_fraction, some_curve, spot,
    worth,
)
from hingedraw.cells import draws, drawn_line, inverting_cell, line_cell, round_point
from hingedraw.curves import curve_grown, curve_times, line_through, normal, on_curve
from hingedraw.errors import NoCurve, NoMeet
from hingedraw.leads import led
from hingedraw.points import square_apart

HALF = Fraction(1, 2)
ORIGIN = plain(0, 0)

ROUND = (
    (ORIGIN, plain(1, 0), ((1, 1), (1, 1)), plain(1, 1)),
    (ORIGIN, plain(1, 0), ((-2, 3), (-2, 3)), plain(1, 1)),
    (ORIGIN, plain(1, 0), ((1, 1), (-1, 1)), plain(1, -1)),
    (ORIGIN, plain(1, 0), ((7, 1), (0, 1)), plain(2, 0)),
    (ORIGIN, plain(1, 0), ((-1, 9), (0, 1)), plain(2, 0)),
    (ORIGIN, plain(1, 2), ((1, 1), (0, 1)), plain(2, 0)),
    (ORIGIN, plain(1, 2), ((0, 1), (1, 1)), plain(0, 4)),
    (ORIGIN, plain(HALF, 0), ((2, 1), (1, 1)), plain(Fraction(4, 5), Fraction(2, 5))),
    (plain(1, 1), plain(4, 5), ((0, 1), (3, 1)), plain(1, 9)),
    (plain(1, 1), plain(4, 5), ((3, 1), (4, 1)), plain(7, 9)),
    # along the touching line
    (ORIGIN, plain(1, 0), ((0, 1), (1, 1)), ORIGIN),
    (ORIGIN, plain(1, 0), ((0, 1), (-5, 7)), ORIGIN),
    (plain(1, 1), plain(4, 5), ((-4, 1), (3, 1)), plain(1, 1)),
    # about and middle one
    (ORIGIN, ORIGIN, ((1, 1), (2, 1)), ORIGIN),
    (plain(HALF, -3), plain(HALF, -3), ((0, 1), (1, 1)), plain(HALF, -3)),
)

LINES = (
    (ORIGIN, plain(1, 0), (4, 1), curve({(1, 0): 1, (0, 0): -2})),
    (ORIGIN, plain(1, 0), (-4, 1), curve({(1, 0): 1, (0, 0): 2})),
    (ORIGIN, plain(-1, 0), (4, 1), curve({(1, 0): 1, (0, 0): 2})),
    (ORIGIN, plain(0, 3), (1, 1), curve({(0, 1): 6, (0, 0): -1})),
    (ORIGIN, plain(1, 2), (6, 1), curve({(1, 0): 1, (0, 1): 2, (0, 0): -3})),
    (plain(1, 1), plain(2, 3), (6, 1), curve({(1, 0): 1, (0, 1): 2, (0, 0): -6})),
    (plain(1, 1), plain(HALF, 1), (2, 1), curve({(1, 0): 1, (0, 0): 1})),
    (plain(1, 1), plain(HALF, 1), (1, 1), curve({(1, 0): 1})),
)


class RoundPointTest(unittest.TestCase):

    def test_written_out(self):
        for middle, about, way, told in ROUND:
            self.assertEqual(round_point(middle, about, way), told, (middle, about, way))

    def test_on_the_circle_and_on_the_line(self):
        chance = random.Random(93)
        for turn in range(100):
            kind = great_fraction if turn % 20 == 0 else small_fraction
            middle, about = plain(kind(chance), kind(chance)), plain(kind(chance), kind(chance))
            u, v = kind(chance), kind(chance) or Fraction(1)
            told = round_point(middle, about, (pair(u), pair(v)))
            self.assertEqual(square_apart(about, told), square_apart(about, middle))
            (x, y), (a, b), (p, q) = spot(middle), spot(about), spot(told)
            self.assertEqual((p - x) * v - (q - y) * u, 0)
            self.assertEqual(told == middle, (a - x) * u + (b - y) * v == 0)


class DrawnLineTest(RefusalCase):

    def test_written_out(self):
        for middle, about, power, told in LINES:
            self.assertEqual(drawn_line(middle, about, power), told, (middle, about, power))

    def test_about_and_middle_one(self):
        self.assert_refused(NoMeet, drawn_line, ORIGIN, ORIGIN, (1, 1))
        self.assert_refused(NoMeet, drawn_line, plain(HALF, 2), plain(HALF, 2), (-3, 2))

    def test_whose_points_come_to_half_the_power(self):
        chance = random.Random(94)
        for turn in range(60):
            kind = great_fraction if turn % 20 == 0 else small_fraction
            middle, about = plain(kind(chance), kind(chance)), plain(kind(chance), kind(chance))
            power = pair(kind(chance) or HALF)
            if middle == about:
                continue
            told = drawn_line(middle, about, power)
            self.assertTrue(looks_normal(told))
            (x, y), (a, b) = spot(middle), spot(about)
            for by in (0, 1, Fraction(-7, 3)):
                # Half the power along the way, and so many times the way across.
                square = (a - x) ** 2 + (b - y) ** 2
                along = worth(power) / 2 / square
                point = plain(x + along * (a - x) - by * (b - y), y + along * (b - y) + by * (a - x))
                self.assertIs(on_curve(told, point), True)
            self.assertIs(on_curve(told, middle), False)

    def test_pens_of_points_that_go_round(self):
        chance = random.Random(95)
        stood = 0
        for turn in range(200):
            middle = plain(small_fraction(chance), small_fraction(chance))
            about = plain(small_fraction(chance), small_fraction(chance))
            outer, inner = [abs(small_fraction(chance)) * 9 or HALF for number in range(2)]
            way = (pair(small_fraction(chance)), pair(small_fraction(chance) or HALF))
            point = round_point(middle, about, way)
            if outer == inner or point == middle:
                continue
            told = drawn_line(middle, about, pair(outer - inner))
            lead = ("invert", middle[0][0], middle[1][0], pair(outer - inner))
            self.assertIs(on_curve(told, led([lead], point)), True)
            try:
                pen = inverting_cell(middle, point, pair(outer), pair(inner))[4]
            except NoMeet:
                continue
            stood += 1
            self.assertIs(on_curve(told, pen), True)
        self.assertGreater(stood, 40)


# The line x = 2, about (1, 0), power 4: the roots must differ by less than 2.
LINE = curve({(1, 0): 1, (0, 0): -2})


class DrawsTest(unittest.TestCase):

    def test_a_line_that_is_drawn(self):
        for outer, inner in ((5, 1), (8, 4), (Fraction(9, 2), HALF), (100, 96), (Fraction(41, 10), Fraction(1, 10))):
            self.assertIs(draws(LINE, ORIGIN, plain(1, 0), pair(outer), pair(inner)), True)
            for by in ((2, 1), (-1, 1), (-3, 7), (1, 10 ** 59)):
                self.assertIs(draws(curve_grown(LINE, by), ORIGIN, plain(1, 0), pair(outer), pair(inner)), True)
        # the other way, the inner one being greater
        self.assertIs(draws(LINE, ORIGIN, plain(-1, 0), (1, 1), (5, 1)), True)
        self.assertIs(draws(curve({(1, 0): 1, (0, 1): 2, (0, 0): -6}), plain(1, 1), plain(2, 3), (10, 1), (4, 1)), True)

    def test_another_line(self):
        for line in (curve({(1, 0): 1, (0, 0): 2}), curve({(1, 0): 1, (0, 0): -3}), curve({(1, 0): 1}),
                     curve({(0, 1): 1, (0, 0): -2}), curve({(1, 0): 1, (0, 1): 1, (0, 0): -2}),
                     curve({(1, 0): 1, (0, 0): Fraction(-2 * 10 ** 59 - 1, 10 ** 59)})):
            self.assertIs(draws(line, ORIGIN, plain(1, 0), (5, 1), (1, 1)), False)
        for about in (plain(2, 0), plain(0, 1), plain(-1, 0), plain(1, 1)):
            self.assertIs(draws(LINE, ORIGIN, about, (5, 1), (1, 1)), False)
        self.assertIs(draws(LINE, plain(0, 1), plain(1, 0), (5, 1), (1, 1)), False)
        for outer, inner in ((6, 1), (5, 2), (1, 5), (4, 1)):
            self.assertIs(draws(LINE, ORIGIN, plain(1, 0), (outer, 1), (inner, 1)), False)

    def test_what_is_no_line(self):
        for line in ({}, {(0, 0): (1, 1)}, curve_times(LINE, LINE), curve_times(LINE, curve({(0, 1): 1})),
                     curve({(2, 0): 1, (1, 0): 1, (0, 0): -2}), curve({(2, 0): 1, (0, 2): 1, (0, 0): -1})):
            self.assertIs(draws(line, ORIGIN, plain(1, 0), (5, 1), (1, 1)), False)

    def test_outer_and_inner_alike(self):
        # The line of 82 would go through the middle then.
        for line in (LINE, curve({(1, 0): 1})):
            for square in ((1, 1), (5, 1), (3, 7)):
                self.assertIs(draws(line, ORIGIN, plain(1, 0), square, square), False)

    def test_about_and_middle_one(self):
        self.assertIs(draws(LINE, ORIGIN, ORIGIN, (5, 1), (1, 1)), False)
        self.assertIs(draws(LINE, plain(1, 0), plain(1, 0), (5, 1), (1, 1)), False)

    def test_squares_from_nought_down(self):
        self.assertIs(draws(LINE, ORIGIN, plain(1, 0), (4, 1), (0, 1)), False)
        self.assertIs(draws(LINE, ORIGIN, plain(1, 0), (3, 1), (-1, 1)), False)
        self.assertIs(draws(LINE, ORIGIN, plain(1, 0), (-1, 1), (-5, 1)), False)
        self.assertIs(draws(LINE, ORIGIN, plain(-1, 0), (0, 1), (4, 1)), False)
        # With these the line of 82 is it, and the rest would let them stand.
        for power, outer, inner in ((1, 1, 0), (-1, 0, 1), (2, 1, -1), (-2, -1, 1), (1, -1, -2)):
            line = drawn_line(ORIGIN, plain(1, 0), (power, 1))
            self.assertIs(draws(line, ORIGIN, plain(1, 0), (outer, 1), (inner, 1)), False)

    def test_whether_it_can_stand(self):
        # Roots 3 and 1 differ by 2: the line of 82 is told, yet the about is to be farther than 1.
        for x, can in ((1, False), (HALF, False), (Fraction(3, 2), True), (1 + Fraction(1, 10 ** 50), True),
                       (1 - Fraction(1, 10 ** 50), False), (-1, False), (-2, True)):
            for outer, inner in (((9, 1), (1, 1)), ((1, 1), (9, 1))):
                line = drawn_line(ORIGIN, plain(x, 0), pair(worth(outer) - worth(inner)))
                self.assertIs(draws(line, ORIGIN, plain(x, 0), outer, inner), can)
        # Roots of 2 and 8 differ by the root of 2, less than twice 3/4, not than twice 7/10.
        for x, can in ((Fraction(3, 4), True), (Fraction(7, 10), False), (Fraction(7072, 10000), True),
                       (Fraction(7071, 10000), False)):
            line = drawn_line(ORIGIN, plain(0, x), (6, 1))
            self.assertIs(draws(line, ORIGIN, plain(0, x), (8, 1), (2, 1)), can)
        # Roots of 3 and 2 differ by about 0.3178: squares 5 less the root of 24.
        for x, can in ((Fraction(15891, 100000), False), (Fraction(15892, 100000), True)):
            line = drawn_line(plain(1, 1), plain(1 + x, 1), (1, 1))
            self.assertIs(draws(line, plain(1, 1), plain(1 + x, 1), (3, 1), (2, 1)), can)
        # As far as the root of 2: the roots may differ by less than the root of 8.
        for outer, can in ((17, True), (18, False), (Fraction(1799, 100), True)):
            line = drawn_line(ORIGIN, plain(1, 1), pair(outer - 2))
            self.assertIs(draws(line, ORIGIN, plain(1, 1), pair(outer), (2, 1)), can)

    def test_it_stands_where_it_is_told_so(self):
        chance = random.Random(96)
        for turn in range(60):
            about = plain(small_fraction(chance) or 1, small_fraction(chance))
            outer, inner = [abs(small_fraction(chance)) * 9 or HALF for number in range(2)]
            if outer == inner:
                continue
            line = drawn_line(ORIGIN, about, pair(outer - inner))
            # The farthest point of the circle, where the cell reaches most; or one nearer, where it is too far.
            far = plain(*[2 * part for part in spot(about)])
            apart = worth(square_apart(ORIGIN, far)[0])
            can = apart > outer + inner or 4 * outer * inner > (outer + inner - apart) ** 2
            self.assertIs(draws(line, ORIGIN, about, pair(outer), pair(inner)), can)


class LineCellTest(RefusalCase):

    def assert_drawn(self, line, middle):
        told = line_cell(line, middle)
        self.assertIs(type(told), tuple)
        about, outer, inner = told
        for square in (outer, inner):
            self.assertTrue(looks_like_fraction(square) and square[0] > 0)
        self.assertNotEqual(outer, inner)
        self.assertNotEqual(about, middle)
        x, y = spot(about)
        self.assertEqual(about, plain(x, y))
        self.assertIs(draws(line, middle, about, outer, inner), True)
        self.assertEqual(drawn_line(middle, about, pair(worth(outer) - worth(inner))), normal(line))

    def test_some_lines(self):
        for line in (LINE, curve({(0, 1): 1, (0, 0): 3}), curve({(1, 0): HALF, (0, 1): -3, (0, 0): Fraction(1, 7)}),
                     curve({(1, 0): -1, (0, 1): -1, (0, 0): -1})):
            for middle in (ORIGIN, plain(1, 1), plain(HALF, -2)):
                self.assert_drawn(line, middle)
        self.assert_drawn(curve({(1, 0): 1}), plain(1, 0))
        self.assert_drawn(curve({(1, 0): 1}), plain(Fraction(-1, 10 ** 59), 0))

    def test_by_chance(self):
        chance = random.Random(97)
        drawn = 0
        for turn in range(150):
            kind = great_fraction if turn % 20 == 0 else small_fraction
            line = some_curve(chance, 1, kind)
            middle = plain(kind(chance), kind(chance))
            if not ((1, 0) in line or (0, 1) in line) or on_curve(line, middle):
                self.assert_refused(NoCurve, line_cell, line, middle)
                continue
            drawn += 1
            self.assert_drawn(line, middle)
        self.assertGreater(drawn, 60)

    def test_the_cell_draws_the_line(self):
        about, outer, inner = line_cell(LINE, ORIGIN)
        stood = 0
        for turn in range(-20, 21):
            point = round_point(ORIGIN, about, ((1, 1), pair(Fraction(turn, 10))))
            try:
                pen = inverting_cell(ORIGIN, point, outer, inner)[4]
            except NoMeet:
                continue
            stood += 1
            self.assertIs(on_curve(LINE, pen), True)
        self.assertGreater(stood, 0)

    def test_no_lines(self):
        for line in ({}, {(0, 0): (1, 1)}, {(0, 0): (-3, 2)}, curve({(2, 0): 1}), curve_times(LINE, LINE),
                     curve({(2, 0): 1, (1, 0): 1, (0, 0): 3}), curve({(1, 1): 1, (0, 0): 1}), curve({(0, 3): 1})):
            self.assert_refused(NoCurve, line_cell, line, ORIGIN)

    def test_lines_through_the_middle(self):
        self.assert_refused(NoCurve, line_cell, curve({(1, 0): 1}), ORIGIN)
        self.assert_refused(NoCurve, line_cell, curve({(1, 0): 1, (0, 1): -2}), plain(2, 1))
        self.assert_refused(NoCurve, line_cell, LINE, plain(2, 7))
        self.assert_refused(NoCurve, line_cell, line_through(plain(1, 5), plain(HALF, -3)), plain(1, 5))

    def test_what_is_handed_in_is_left(self):
        line = dict(LINE)
        before = copy.deepcopy(line)
        line_cell(line, ORIGIN)
        draws(line, ORIGIN, plain(1, 0), (5, 1), (1, 1))
        self.assertEqual(line, before)


if __name__ == "__main__":
    unittest.main()
