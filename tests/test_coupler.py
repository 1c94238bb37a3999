"""[62] Four rods and a pen: their machine, and the curve on which all pens lie."""

import random
import unittest
from fractions import Fraction

from helps import curve, great_fraction, looks_normal, pair, plain, side_at, small_fraction, worth
from hingedraw.coupler import coupler_curve, pen_machine
from hingedraw.curves import curve_grown, degree_of, normal, on_curve, top_part
from hingedraw.errors import Stuck
from hingedraw.linkages import first_wrong, is_linkage
from hingedraw.machines import is_machine, linkage_of, stand

CUBE = curve({(6, 0): 1, (4, 2): 3, (2, 4): 3, (0, 6): 1})
DRIVES = ((0, 1), (1, 3), (-1, 3), (5, 4), (-5, 4), (7, 1), (-7, 1), None)

# Fixed points, crank, squares of coupler and rocker, the pen's numbers.
FOURS = (
    (((0, 1), (0, 1)), ((4, 1), (0, 1)), (1, 1), ((9, 1), (9, 1)), ((1, 2), (1, 3))),
    (((0, 1), (0, 1)), ((4, 1), (0, 1)), (2, 1), ((20, 1), (16, 1)), ((1, 2), (0, 1))),
    (((1, 2), (-1, 3)), ((3, 1), (2, 1)), (3, 4), ((7, 1), (13, 2)), ((-2, 3), (5, 4))),
    (((-1, 1), (2, 1)), ((-1, 1), (-3, 1)), (2, 1), ((12, 5), (30, 1)), ((3, 1), (-1, 1))),
    # Rods as long as those over against them: the curve falls into parts.
    (((0, 1), (0, 1)), ((3, 1), (0, 1)), (2, 1), ((9, 1), (4, 1)), ((1, 2), (1, 2))),
    # The pen at an end of the coupler, and straight beside one.
    (((2, 1), (1, 1)), ((5, 1), (1, 1)), (2, 1), ((10, 1), (8, 1)), ((0, 1), (0, 1))),
    (((2, 1), (1, 1)), ((5, 1), (1, 1)), (2, 1), ((10, 1), (8, 1)), ((1, 1), (0, 1))),
    (((2, 1), (1, 1)), ((5, 1), (1, 1)), (2, 1), ((10, 1), (8, 1)), ((0, 1), (1, 1))),
    (((2, 1), (1, 1)), ((5, 1), (1, 1)), (2, 1), ((10, 1), (8, 1)), ((1, 1), (-1, 2))),
)


def side_told(one, other, crank, squares, place, x, y):
    """The side at x and y, word by word as the document has it."""
    p, q = worth(place[0]), worth(place[1])
    m, b, r, l = 1 - p, worth(squares[0]), worth(squares[1]), worth(crank)
    X, Y = x - worth(one[0]), y - worth(one[1])
    Z, W = x - worth(other[0]), y - worth(other[1])
    A, B, C = p * X + q * Y, p * Y - q * X, X * X + Y * Y + (p * p + q * q) * b - l * l
    D, E, F = q * W - m * Z, -q * Z - m * W, Z * Z + W * W + (m * m + q * q) * b - r
    return (C * E - F * B) ** 2 + (A * F - D * C) ** 2 - 4 * b * (A * E - D * B) ** 2


def some_four(chance, kind=small_fraction):
    one = (pair(kind(chance)), pair(kind(chance)))
    other = one
    while other == one:
        other = (pair(kind(chance)), pair(kind(chance)))
    crank, coupler, rocker = [pair(abs(kind(chance)) or Fraction(1, 2)) for turn in range(3)]
    return (one, other, crank, (coupler, rocker), (pair(kind(chance)), pair(kind(chance))))


class PenMachineTest(unittest.TestCase):

    def test_five_steps_in_order(self):
        one, other, crank, squares, place = FOURS[2]
        for side in (0, 1):
            self.assertEqual(pen_machine(one, other, crank, squares, place, side), (
                ("fix", (1, 2), (-1, 3)), ("fix", (3, 1), (2, 1)), ("crank", 0, (3, 4)),
                ("pair", 2, 1, (7, 1), (13, 2), side), ("like", 2, 3, (-2, 3), (5, 4)),
            ))

    def test_is_a_machine(self):
        chance = random.Random(240)
        kinds = (small_fraction, great_fraction) * 20
        for four in FOURS + tuple(some_four(chance, kind) for kind in kinds):
            for side in (0, 1):
                self.assertIs(is_machine(pen_machine(*four, side)), True)

    def test_its_linkage_and_its_stands(self):
        for four in FOURS[:5]:
            for side in (0, 1):
                machine = pen_machine(*four, side)
                linkage = linkage_of(machine)
                self.assertIs(is_linkage(linkage), True)
                for drive in DRIVES:
                    try:
                        points = stand(machine, (drive,))
                    except Stuck:
                        continue
                    self.assertIsNone(first_wrong(linkage, tuple(points)))

    def test_written_out(self):
        machine = pen_machine(*FOURS[1], 0)
        self.assertEqual(stand(machine, ((1, 1),)), [plain(0, 0), plain(4, 0), plain(0, 2), plain(4, 4), plain(2, 3)])


class CouplerCurveTest(unittest.TestCase):

    def assert_side(self, four):
        told = coupler_curve(*four)
        self.assertTrue(looks_normal(told))
        self.assertEqual(normal(told), told)
        by = worth(told[(6, 0)])
        # A side of degree six is known by its worths at seven times seven points.
        for x in range(-3, 4):
            for y in range(-2, 5):
                self.assertEqual(side_at(told, x, y), by * side_told(*four, Fraction(x), Fraction(y)))
        self.assertEqual(degree_of(told), 6)
        self.assertEqual(top_part(told), curve_grown(CUBE, told[(6, 0)]))

    def test_the_side_that_is_told(self):
        for four in FOURS:
            self.assert_side(four)

    def test_some(self):
        chance = random.Random(241)
        for turn in range(15):
            self.assert_side(some_four(chance))
        for turn in range(2):
            self.assert_side(some_four(chance, great_fraction))

    def test_written_out(self):
        # The pen at the crank's end: x x + y y - 1 twice, and the round of no reach about (4, 0).
        told = coupler_curve(((0, 1), (0, 1)), ((4, 1), (0, 1)), (1, 1), ((9, 1), (9, 1)), ((0, 1), (0, 1)))
        self.assertEqual(told, curve({
            (6, 0): 1, (4, 2): 3, (2, 4): 3, (0, 6): 1, (5, 0): -8, (3, 2): -16, (1, 4): -8,
            (4, 0): 14, (2, 2): 28, (0, 4): 14, (3, 0): 16, (1, 2): 16, (2, 0): -31, (0, 2): -31, (1, 0): -8,
            (0, 0): 16,
        }))

    def test_pens_lie_on_it(self):
        chance = random.Random(242)
        seen = [0, 0]
        for four in FOURS + tuple(some_four(chance) for turn in range(30)):
            told = coupler_curve(*four)
            for side in (0, 1):
                machine = pen_machine(*four, side)
                for drive in DRIVES:
                    try:
                        points = stand(machine, (drive,))
                    except Stuck:
                        continue
                    self.assertIs(on_curve(told, points[4]), True, (four, side, drive))
                    seen[side] += 1
        self.assertGreater(min(seen), 80)

    def test_other_points_do_not(self):
        told = coupler_curve(*FOURS[0])
        wider = coupler_curve(*FOURS[0][:2], (9, 8), *FOURS[0][3:])
        for drive in DRIVES:
            points = stand(pen_machine(*FOURS[0], 0), (drive,))
            self.assertIs(on_curve(told, points[4]), True)
            self.assertIs(on_curve(told, points[3]), False)
            self.assertIs(on_curve(wider, points[4]), False)

    def test_great_pens(self):
        chance = random.Random(243)

        def near(whole):
            return pair((whole + abs(great_fraction(chance)) / 10 ** 4).limit_denominator(10 ** 58))

        four = ((near(0), near(0)), (near(4), near(0)), near(1), (near(9), near(9)), (near(0), near(1)))
        told = coupler_curve(*four)
        for side in (0, 1):
            points = stand(pen_machine(*four, side), (near(-2),))
            self.assertIs(on_curve(told, points[4]), True)
            self.assertIs(on_curve(told, points[3]), False)

    def test_the_curve_is_the_askers_own(self):
        told = coupler_curve(*FOURS[0])
        again = coupler_curve(*FOURS[0])
        self.assertEqual(again, told)
        self.assertIsNot(again, told)
        told.clear()
        self.assertEqual(coupler_curve(*FOURS[0]), again)


if __name__ == "__main__":
    unittest.main()
