"""[11] Root numbers: what is one, made ones, roots of fractions."""

import random
import unittest
from fractions import Fraction

from helps import (
    RefusalCase, anything, great_fraction, is_square, looks_like_number, nested, number, pair, small_fraction,
)
from hingedraw.errors import NoRoot
from hingedraw.roots import is_number, made, root_of

RIGHT = (
    ((0, 1), (0, 1)), ((5, 1), (0, 1)), ((-5, 3), (0, 1)), ((10 ** 59 + 1, 10 ** 59), (0, 1)),
    ((0, 1), (2, 1)), ((0, 1), (-2, 1)), ((1, 2), (3, 4)), ((-1, 2), (-3, 4)), ((1, 2), (4, 3)), ((1, 2), (-4, 3)),
    ((1, 1), (8, 1)), ((1, 1), (1, 8)), ((1, 1), (-8, 9)), ((3, 7), (10 ** 59, 1)), ((3, 7), (-1, 10 ** 59)),
    ((0, 1), (10 ** 58 + 1, 1)), ((0, 1), (-(10 ** 58) + 1, 1)),
)

WRONG = (
    # an under that is a square, also without its sign
    ((0, 1), (1, 1)), ((0, 1), (-1, 1)), ((1, 2), (4, 1)), ((1, 2), (-4, 1)), ((1, 2), (1, 4)), ((1, 2), (-1, 4)),
    ((1, 2), (9, 4)), ((1, 2), (-9, 4)), ((0, 1), (10 ** 58, 1)), ((0, 1), (-(10 ** 58), 1)), ((0, 1), (-1, 10 ** 58)),
    # not in lowest terms
    ((2, 4), (2, 1)), ((1, 2), (6, 2)), ((1, 2), (-6, 2)), ((0, 2), (2, 1)), ((1, 2), (0, 2)), ((3, 3), (0, 1)),
    ((10 ** 59, 10 ** 58), (0, 1)), ((1, 2), (8, 4)),
    # a bottom of 0 or below
    ((1, 0), (2, 1)), ((1, 1), (2, 0)), ((1, -1), (2, 1)), ((1, 1), (2, -1)), ((0, 0), (2, 1)), ((1, 1), (0, 0)),
    ((1, 1), (0, -1)), ((0, -1), (0, 1)), ((1, 1), (1, 0)), ((1, -2), (0, 1)), ((1, 1), (-2, -1)),
    # truths
    ((True, 1), (2, 1)), ((1, True), (2, 1)), ((1, 1), (2, True)), ((False, 1), (2, 1)), ((1, 1), (False, 1)),
    ((1, 1), (0, True)), ((1, 1), (False, True)), ((1, False), (0, 1)), (True, (0, 1)), ((0, 1), False),
    # lists
    [(1, 1), (2, 1)], ([1, 1], (2, 1)), ((1, 1), [2, 1]), ((1, 1), [0, 1]), [[1, 1], [2, 1]],
    # a part fewer or more
    (), ((1, 1),), ((1, 1), (2, 1), (0, 1)), ((1,), (2, 1)), ((1, 1), (2,)), ((1, 1, 1), (2, 1)), ((1, 1), (2, 1, 1)),
    ((), (2, 1)), ((1, 1), ()), ((1, 1), (0,)), ((1, 1), (0, 1, 1)),
    # other kinds in their place
    None, True, False, 0, 1, 5, -3, 10 ** 60, "", "ab", "((0, 1), (0, 1))", {}, [], {0: (1, 1), 1: (2, 1)},
    (1, 2), (0, 1), ("12", "34"), ((1, 1), "01"), ("11", (2, 1)), (("1", "1"), (2, 1)), ((1, 1), ("2", 1)), ((1, 1), (2, "1")),
    ((1, 1), None), (None, (2, 1)), ((None, 1), (2, 1)), ((1, None), (2, 1)), ((1, 1), (None, 1)), ((1, 1), (2, None)),
    ({1: 1, 2: 1}, (2, 1)), ((1, 1), {2: 1, 1: 1}), {(1, 1): 1, (2, 1): 1}, (((1, 1), (2, 1)), ((1, 1), (2, 1))),
    ((1, ()), (2, 1)), (((), 1), (2, 1)), ((1, 1), ({}, 1)), ((1, 1), ([], 1)), ((1, 1), (2, [])),
)


class IsNumberTest(unittest.TestCase):

    def test_right_ones(self):
        for thing in RIGHT:
            self.assertIs(is_number(thing), True, thing)

    def test_wrong_ones(self):
        for thing in WRONG:
            self.assertIs(is_number(thing), False, thing)

    def test_small_ones(self):
        wholes = range(-9, 10)
        for top in wholes:
            for bottom in wholes:
                for thing in (((1, 2), (top, bottom)), ((top, bottom), (-3, 5)), ((top, bottom), (0, 1))):
                    self.assertIs(is_number(thing), looks_like_number(thing), thing)

    def test_anything(self):
        chance = random.Random(15)
        seen = {True: 0, False: 0}
        for turn in range(20000):
            thing = anything(chance, chance.randrange(1, 6))
            told = is_number(thing)
            self.assertIs(told, looks_like_number(thing), thing)
            seen[told] += 1
        self.assertGreater(min(seen.values()), 20)

    def test_twenty_deep(self):
        for within in (0, True, None, "a", ((1, 1), (2, 1))):
            for deep in range(1, 21):
                self.assertIs(is_number(nested(deep, within)), False)
                self.assertIs(is_number((nested(deep, within), (2, 1))), False)
                self.assertIs(is_number(((1, 1), nested(deep, within))), False)
                self.assertIs(is_number(((1, nested(deep, within)), (2, 1))), False)

    def test_great_ones(self):
        chance = random.Random(16)
        for turn in range(100):
            part, under = great_fraction(chance), great_fraction(chance)
            self.assertIs(is_number((pair(part), pair(under))), True)
            self.assertIs(is_number((pair(part), pair(under * under))), False)
            self.assertIs(is_number((pair(part), pair(-under * under))), False)
            self.assertIs(is_number((pair(part), tuple(7 * whole for whole in pair(under)))), False)


class MadeTest(unittest.TestCase):

    def test_written_out(self):
        for part, under, told in (
            ((1, 2), (0, 1), ((1, 2), (0, 1))),
            ((1, 2), (4, 1), ((5, 2), (0, 1))),
            ((1, 2), (-4, 1), ((-3, 2), (0, 1))),
            ((1, 2), (1, 4), ((1, 1), (0, 1))),
            ((1, 2), (-1, 4), ((0, 1), (0, 1))),
            ((0, 1), (-1, 1), ((-1, 1), (0, 1))),
            ((1, 2), (2, 1), ((1, 2), (2, 1))),
            ((1, 2), (-2, 1), ((1, 2), (-2, 1))),
            ((1, 2), (8, 1), ((1, 2), (8, 1))),
            ((-1, 2), (4, 3), ((-1, 2), (4, 3))),
            ((-1, 2), (-3, 4), ((-1, 2), (-3, 4))),
        ):
            self.assertEqual(made(part, under), told)

    def test_squares_are_drawn_out(self):
        chance = random.Random(17)
        for kind in (small_fraction, great_fraction):
            for turn in range(100):
                part, root = kind(chance), abs(kind(chance))
                self.assertEqual(made(pair(part), pair(root * root)), number(part + root))
                self.assertEqual(made(pair(part), pair(-root * root)), number(part - root))

    def test_others_stay(self):
        chance = random.Random(18)
        for turn in range(100):
            part, root = great_fraction(chance), great_fraction(chance)
            for base in (2, 3, 6, Fraction(2, 3)):
                given = number(part, root, base)
                self.assertEqual(made(given[0], given[1]), given)

    def test_what_is_made_is_a_number(self):
        for top in range(-40, 41):
            for bottom in range(1, 20):
                told = made((-2, 3), pair(Fraction(top, bottom)))
                self.assertTrue(looks_like_number(told), told)
                self.assertIs(is_number(told), True)


class RootOfTest(RefusalCase):

    def test_written_out(self):
        for fraction, told in (
            ((0, 1), ((0, 1), (0, 1))), ((1, 1), ((1, 1), (0, 1))), ((9, 4), ((3, 2), (0, 1))), ((1, 9), ((1, 3), (0, 1))),
            ((2, 1), ((0, 1), (2, 1))), ((8, 1), ((0, 1), (8, 1))), ((4, 3), ((0, 1), (4, 3))), ((3, 4), ((0, 1), (3, 4))),
        ):
            self.assertEqual(root_of(fraction), told)

    def test_small_ones(self):
        for top in range(60):
            for bottom in range(1, 30):
                top_bottom = pair(Fraction(top, bottom))
                part, under = root_of(top_bottom)
                self.assertTrue(looks_like_number((part, under)))
                if is_square(top_bottom[0]) and is_square(top_bottom[1]):
                    self.assertEqual(under, (0, 1))
                    self.assertGreaterEqual(part[0], 0)
                    self.assertEqual(pair(Fraction(*part) ** 2), top_bottom)
                else:
                    self.assertEqual((part, under), ((0, 1), top_bottom))

    def test_great_ones(self):
        chance = random.Random(19)
        for turn in range(50):
            root = abs(great_fraction(chance))
            self.assertEqual(root_of(pair(root * root)), number(root))
            self.assertEqual(root_of(pair(3 * root * root)), number(0, root, 3))

    def test_below_nought_is_refused(self):
        for fraction in ((-1, 1), (-4, 1), (-2, 1), (-1, 4), (-1, 10 ** 59), (-(10 ** 59), 1), (-(10 ** 9000), 1)):
            self.assert_refused(NoRoot, root_of, fraction)


if __name__ == "__main__":
    unittest.main()
