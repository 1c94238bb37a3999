"""[60] Curves: sums, differences, products, normal ones, degrees, parts of the greatest degree and slopes."""

import copy
import random
import unittest
from fractions import Fraction
from math import gcd

from helps import (
    RefusalCase, curve, great_fraction, looks_like_curve, looks_normal, pair, small_fraction, some_curve, worth,
)
from hingedraw.curves import (
    curve_grown, curve_minus, curve_plus, curve_times, degree_of, normal, slope, top_part,
)
from hingedraw.errors import NoCurve

X, Y, ONE = {(1, 0): (1, 1)}, {(0, 1): (1, 1)}, {(0, 0): (1, 1)}
# x x - 2 x y + 1/2, and 2 x y + y.
FIRST = curve({(2, 0): 1, (1, 1): -2, (0, 0): Fraction(1, 2)})
SECOND = curve({(1, 1): 2, (0, 1): 1})


def values(told):
    return {key: worth(fraction) for key, fraction in told.items()}


def total(one, other, by=1):
    sums = values(one)
    for key, value in values(other).items():
        sums[key] = sums.get(key, 0) + by * value
    return curve(sums)


def product(one, other):
    sums = {}
    for mine, value in values(one).items():
        for theirs, factor in values(other).items():
            key = (mine[0] + theirs[0], mine[1] + theirs[1])
            sums[key] = sums.get(key, 0) + value * factor
    return curve(sums)


class SumsTest(unittest.TestCase):

    def test_written_out(self):
        self.assertEqual(curve_plus(FIRST, SECOND), curve({(2, 0): 1, (0, 1): 1, (0, 0): Fraction(1, 2)}))
        self.assertEqual(curve_minus(FIRST, SECOND),
                         curve({(2, 0): 1, (1, 1): -4, (0, 1): -1, (0, 0): Fraction(1, 2)}))
        self.assertEqual(curve_plus(X, X), {(1, 0): (2, 1)})
        self.assertEqual(curve_plus({(3, 1): (1, 6)}, {(3, 1): (1, 3)}), {(3, 1): (1, 2)})
        self.assertEqual(curve_minus(X, Y), {(1, 0): (1, 1), (0, 1): (-1, 1)})

    def test_keys_that_fall_away(self):
        self.assertEqual(curve_minus(FIRST, FIRST), {})
        self.assertEqual(curve_plus(X, {(1, 0): (-1, 1)}), {})
        self.assertEqual(curve_plus(curve({(1, 0): 1, (0, 0): 3}), curve({(1, 0): -1, (0, 1): 2})),
                         curve({(0, 0): 3, (0, 1): 2}))
        self.assertEqual(curve_minus(curve({(1, 0): 1, (0, 0): 3}), curve({(1, 0): 1, (0, 1): 2})),
                         curve({(0, 0): 3, (0, 1): -2}))

    def test_with_nothing(self):
        self.assertEqual(curve_plus({}, {}), {})
        self.assertEqual(curve_minus({}, {}), {})
        for told in (FIRST, SECOND, X, ONE):
            self.assertEqual(curve_plus(told, {}), told)
            self.assertEqual(curve_plus({}, told), told)
            self.assertEqual(curve_minus(told, {}), told)
            self.assertEqual(curve_minus({}, told), total({}, told, -1))

    def test_some(self):
        chance = random.Random(220)
        for kind in (small_fraction, great_fraction):
            for turn in range(80):
                one, other = some_curve(chance, 3, kind), some_curve(chance, 3, kind)
                if turn % 3 == 0:
                    other = total(other, {key: fraction for key, fraction in one.items() if key[0] == 1}, -1)
                self.assertEqual(curve_plus(one, other), total(one, other))
                self.assertEqual(curve_minus(one, other), total(one, other, -1))
                self.assertTrue(looks_like_curve(curve_plus(one, other)))
                self.assertTrue(looks_like_curve(curve_minus(one, other)))


class ProductsTest(unittest.TestCase):

    def test_written_out(self):
        self.assertEqual(curve_times(FIRST, SECOND), curve({
            (3, 1): 2, (2, 1): 1, (2, 2): -4, (1, 2): -2, (1, 1): 1, (0, 1): Fraction(1, 2),
        }))
        self.assertEqual(curve_times(X, Y), {(1, 1): (1, 1)})
        self.assertEqual(curve_times({(0, 0): (2, 3)}, {(0, 0): (3, 4)}), {(0, 0): (1, 2)})
        self.assertEqual(curve_times(FIRST, ONE), FIRST)

    def test_keys_that_fall_away(self):
        self.assertEqual(curve_times(curve({(1, 0): 1, (0, 1): 1}), curve({(1, 0): 1, (0, 1): -1})),
                         curve({(2, 0): 1, (0, 2): -1}))

    def test_with_nothing(self):
        for told in ({}, FIRST, ONE):
            self.assertEqual(curve_times(told, {}), {})
            self.assertEqual(curve_times({}, told), {})

    def test_some(self):
        chance = random.Random(221)
        for kind, many in ((small_fraction, 80), (great_fraction, 8)):
            for turn in range(many):
                one, other = some_curve(chance, 3, kind), some_curve(chance, 2, kind)
                told = curve_times(one, other)
                self.assertEqual(told, product(one, other))
                self.assertTrue(looks_like_curve(told))
                self.assertEqual(curve_times(one, one), product(one, one))

    def test_great_powers(self):
        far = 10 ** 59
        self.assertEqual(curve_times({(far, 1): (2, 1)}, {(1, far): (3, 1)}), {(far + 1, far + 1): (6, 1)})
        self.assertEqual(degree_of({(far, far): (2, 1)}), 2 * far)
        self.assertEqual(slope({(far, far): (2, 1)}, 1), {(far, far - 1): (2 * far, 1)})


class GrownTest(unittest.TestCase):

    def test_written_out(self):
        self.assertEqual(curve_grown(FIRST, (2, 1)), curve({(2, 0): 2, (1, 1): -4, (0, 0): 1}))
        self.assertEqual(curve_grown(FIRST, (-1, 2)),
                         curve({(2, 0): Fraction(-1, 2), (1, 1): 1, (0, 0): Fraction(-1, 4)}))
        self.assertEqual(curve_grown(FIRST, (1, 1)), FIRST)

    def test_times_nought(self):
        for told in ({}, FIRST, ONE):
            self.assertEqual(curve_grown(told, (0, 1)), {})
        self.assertEqual(curve_grown({}, (5, 3)), {})

    def test_some(self):
        chance = random.Random(222)
        for kind in (small_fraction, great_fraction):
            for turn in range(60):
                told, by = some_curve(chance, 3, kind), kind(chance)
                grown = curve({key: by * value for key, value in values(told).items()})
                self.assertEqual(curve_grown(told, pair(by)), grown)


class NormalTest(RefusalCase):

    def test_written_out(self):
        for told, plain in (
            (FIRST, {(2, 0): (2, 1), (1, 1): (-4, 1), (0, 0): (1, 1)}),
            (curve({(1, 0): Fraction(2, 3), (0, 1): Fraction(-4, 5)}), {(1, 0): (5, 1), (0, 1): (-6, 1)}),
            (curve({(1, 0): 6, (0, 1): 9}), {(1, 0): (2, 1), (0, 1): (3, 1)}),
            ({(0, 0): (-5, 7)}, ONE),
            ({(0, 0): (7, 1)}, ONE),
            ({(0, 3): (-1, 9)}, {(0, 3): (1, 1)}),
            (curve({(1, 0): -1, (0, 9): 2}), {(1, 0): (1, 1), (0, 9): (-2, 1)}),
            (curve({(0, 9): 2, (1, 0): -1}), {(1, 0): (1, 1), (0, 9): (-2, 1)}),
            (curve({(2, 1): 4, (2, 0): -6}), {(2, 1): (2, 1), (2, 0): (-3, 1)}),
            (curve({(2, 1): -4, (2, 0): 6}), {(2, 1): (2, 1), (2, 0): (-3, 1)}),
            (curve({(10, 0): -3, (9, 9): 3}), {(10, 0): (1, 1), (9, 9): (-1, 1)}),
        ):
            self.assertEqual(normal(told), plain)
            self.assertEqual(normal(plain), plain)

    def test_some(self):
        chance = random.Random(223)
        for kind in (small_fraction, great_fraction):
            for turn in range(80):
                told = some_curve(chance, 3, kind)
                if told:
                    found = normal(told)
                    self.assertTrue(looks_normal(found))
                    self.assertEqual(set(found), set(told))
                    by = worth(found[max(found)]) / worth(told[max(told)])
                    self.assertEqual(found, curve({key: by * value for key, value in values(told).items()}))
                    factor = kind(chance) or Fraction(-3, 7)
                    self.assertEqual(normal(curve_grown(told, pair(factor))), found)
                    self.assertEqual(gcd(*[fraction[0] for fraction in found.values()]), 1)

    def test_nothing_is_refused(self):
        self.assert_refused(NoCurve, normal, {})
        self.assert_refused(NoCurve, normal, curve_minus(FIRST, FIRST))


class DegreeTest(unittest.TestCase):

    def test_degree(self):
        for told, degree in (
            ({}, None), (ONE, 0), (X, 1), (Y, 1), (FIRST, 2), (SECOND, 2), (curve({(0, 5): 1, (3, 1): 2}), 5),
            (curve({(3, 1): 2, (0, 5): 1}), 5), (curve({(2, 4): 2, (5, 0): 1}), 6),
        ):
            self.assertEqual(degree_of(told), degree)
            self.assertIsNot(degree_of(told), False)

    def test_part_of_the_greatest_degree(self):
        self.assertEqual(top_part({}), {})
        self.assertEqual(top_part(ONE), ONE)
        self.assertEqual(top_part(FIRST), curve({(2, 0): 1, (1, 1): -2}))
        self.assertEqual(top_part(SECOND), {(1, 1): (2, 1)})
        self.assertEqual(top_part(curve({(3, 0): Fraction(1, 2), (2, 1): 1, (0, 3): -1, (1, 1): 4, (0, 0): 3})),
                         curve({(3, 0): Fraction(1, 2), (2, 1): 1, (0, 3): -1}))

    def test_some(self):
        chance = random.Random(224)
        for turn in range(80):
            told = some_curve(chance, 4)
            sums = [i + j for i, j in told]
            self.assertEqual(degree_of(told), max(sums) if sums else None)
            self.assertEqual(top_part(told), {key: told[key] for key in told if sum(key) == max(sums)})


class SlopeTest(unittest.TestCase):

    def test_written_out(self):
        self.assertEqual(slope(FIRST, 0), curve({(1, 0): 2, (0, 1): -2}))
        self.assertEqual(slope(FIRST, 1), curve({(1, 0): -2}))
        self.assertEqual(slope(SECOND, 0), curve({(0, 1): 2}))
        self.assertEqual(slope(SECOND, 1), curve({(1, 0): 2, (0, 0): 1}))
        self.assertEqual(slope({(3, 4): (1, 6)}, 0), {(2, 4): (1, 2)})
        self.assertEqual(slope({(3, 4): (1, 6)}, 1), {(3, 3): (2, 3)})

    def test_of_one_number_and_of_nothing(self):
        for at in (0, 1):
            self.assertEqual(slope(ONE, at), {})
            self.assertEqual(slope({(0, 0): (-5, 3)}, at), {})
            self.assertEqual(slope({}, at), {})
        self.assertEqual(slope(Y, 0), {})
        self.assertEqual(slope(X, 1), {})

    def test_of_sums_and_products(self):
        chance = random.Random(225)
        for turn in range(60):
            one, other = some_curve(chance), some_curve(chance)
            for at in (0, 1):
                self.assertEqual(slope(curve_plus(one, other), at), total(slope(one, at), slope(other, at)))
                self.assertEqual(slope(curve_times(one, other), at),
                                 total(product(slope(one, at), other), product(one, slope(other, at))))
                self.assertTrue(looks_like_curve(slope(one, at)))


class OwnTest(unittest.TestCase):

    def questions(self, one, other):
        yield from ((curve_plus, one, other), (curve_minus, one, other), (curve_times, one, other))
        yield from ((curve_grown, one, (1, 1)), (curve_grown, one, (0, 1)), (curve_grown, one, (-2, 3)))
        yield from ((top_part, one), (slope, one, 0), (slope, one, 1))
        if one:
            yield (normal, one)

    def test_what_was_handed_in_is_unchanged_and_what_is_told_is_another_dict(self):
        whole = curve({(1, 1): 1, (2, 0): 3})
        for one in ({}, X, ONE, FIRST, whole):
            for other in ({}, ONE, SECOND, one):
                before = copy.deepcopy((one, other))
                for question in self.questions(one, other):
                    told = question[0](*question[1:])
                    self.assertEqual((one, other), before)
                    self.assertIsNot(told, one)
                    self.assertIsNot(told, other)
                    again = question[0](*question[1:])
                    self.assertIsNot(again, told)
                    self.assertEqual(again, told)
                    told[(7, 7)] = (1, 1)
                    self.assertEqual((one, other), before)
                    self.assertEqual(question[0](*question[1:]), again)


if __name__ == "__main__":
    unittest.main()
