"""[72] Curves that are led, [73] and kinds of curves."""

import copy
import random
import unittest
from fractions import Fraction
from math import gcd, lcm

from helps import (
    LEAD_WORDS, RefusalCase, curve, great_fraction, looks_normal, pair, plain, rooted, side_at, small_fraction,
    some_curve, some_lead, some_leads, spot, worth,
)
from hingedraw.curves import circle_about, curve_grown, curve_times, degree_of, line_through, normal, on_curve
from hingedraw.errors import NoQuotient
from hingedraw.leads import curve_led, kind_of, led, led_back

HALF = Fraction(1, 2)
AT_ORIGIN = ("invert", (0, 1), (0, 1), (1, 1))
X, Y, ONE = {(1, 0): (1, 1)}, {(0, 1): (1, 1)}, {(0, 0): (1, 1)}
ROUND = curve({(2, 0): 1, (0, 2): 1})
PARABOLA = curve({(2, 0): -1, (0, 1): 1})

LED = (
    # flat leads: y = x x shifted, grown, turned to the left, mirrored
    ([("shift", (1, 1), (2, 1))], PARABOLA, curve({(2, 0): 1, (1, 0): -2, (0, 1): -1, (0, 0): 3})),
    ([("grow", (0, 1), (0, 1), (2, 1))], PARABOLA, curve({(2, 0): 1, (0, 1): -2})),
    ([("grow", (0, 1), (0, 1), (-1, 2))], PARABOLA, curve({(2, 0): 2, (0, 1): 1})),
    ([("grow", (0, 1), (1, 1), (2, 1))], PARABOLA, curve({(2, 0): 1, (0, 1): -2, (0, 0): -2})),
    ([("turn", (0, 1), (0, 1), (0, 1), (1, 1))], PARABOLA, curve({(1, 0): 1, (0, 2): 1})),
    ([("turn", (1, 1), (0, 1), (0, 1), (1, 1))], PARABOLA, curve({(1, 0): 1, (0, 2): 1, (0, 1): 2})),
    ([("mirror", (0, 1), (1, 1), (0, 1))], PARABOLA, curve({(2, 0): 1, (0, 1): 1})),
    ([("mirror", (1, 1), (-1, 1), (0, 1))], PARABOLA, curve({(1, 0): 1, (0, 2): -1})),
    ([("mirror", (2, 1), (2, 1), (-2, 1))], X, curve({(0, 1): 1, (0, 0): -1})),
    ([("turn", (0, 1), (0, 1), (3, 5), (4, 5))], Y, curve({(1, 0): 4, (0, 1): -3})),
    # inverts: lines off the middle, and through it
    ([AT_ORIGIN], curve({(1, 0): 1, (0, 0): -1}), curve({(2, 0): 1, (0, 2): 1, (1, 0): -1})),
    ([("invert", (0, 1), (0, 1), (-6, 1))], curve({(1, 0): 1, (0, 0): -1}), curve({(2, 0): 1, (0, 2): 1, (1, 0): 6})),
    ([("invert", (0, 1), (0, 1), (1, 3))], curve({(0, 1): 1, (0, 0): 2}), curve({(2, 0): 6, (0, 2): 6, (0, 1): 1})),
    ([AT_ORIGIN], curve({(1, 0): 2, (0, 1): -4}), curve({(1, 0): 1, (0, 1): -2})),
    ([("invert", (1, 1), (2, 1), (-7, 3))], curve({(1, 0): 1, (0, 0): -1}), curve({(1, 0): 1, (0, 0): -1})),
    # circles off the middle, through it, about it; circles without points, and of one point
    ([AT_ORIGIN], curve({(2, 0): 1, (0, 2): 1, (1, 0): -1}), curve({(1, 0): 1, (0, 0): -1})),
    ([AT_ORIGIN], curve({(2, 0): 1, (0, 2): 1, (1, 0): -4, (0, 0): 3}),
     curve({(2, 0): 3, (0, 2): 3, (1, 0): -4, (0, 0): 1})),
    ([("invert", (0, 1), (0, 1), (4, 1))], curve({(2, 0): 1, (0, 2): 1, (0, 0): -4}),
     curve({(2, 0): 1, (0, 2): 1, (0, 0): -4})),
    ([("invert", (0, 1), (0, 1), (2, 1))], curve({(2, 0): 1, (0, 2): 1, (0, 0): -1}),
     curve({(2, 0): 1, (0, 2): 1, (0, 0): -4})),
    ([AT_ORIGIN], curve({(2, 0): 1, (0, 2): 1, (0, 0): 1}), curve({(2, 0): 1, (0, 2): 1, (0, 0): 1})),
    ([("invert", (1, 1), (0, 1), (1, 1))], ROUND, curve({(2, 0): 1, (0, 2): 1})),
    # the round itself, and rounds within
    ([AT_ORIGIN], ROUND, ONE),
    ([AT_ORIGIN], curve_times(ROUND, X), X),
    ([AT_ORIGIN], curve_times(ROUND, curve({(1, 0): 1, (0, 0): -1})), curve({(2, 0): 1, (0, 2): 1, (1, 0): -1})),
    ([("invert", (3, 1), (-1, 2), (5, 1))], circle_about(plain(3, -HALF), (1, 1)), circle_about(plain(3, -HALF), (25, 1))),
    ([AT_ORIGIN], curve({(3, 0): 1, (1, 2): 1, (2, 0): 1, (0, 2): -1}), curve({(2, 0): 1, (1, 0): 1, (0, 2): -1})),
    # others: the parabola through its end, and through its point above; a cross; a cubic
    ([AT_ORIGIN], PARABOLA, curve({(2, 1): 1, (0, 3): 1, (2, 0): -1})),
    ([("invert", (0, 1), (1, 1), (1, 1))], PARABOLA, curve(
        {(4, 0): 1, (2, 2): 2, (0, 4): 1, (2, 1): -3, (0, 3): -3, (2, 0): 0, (0, 2): 3, (0, 1): -1})),
    ([AT_ORIGIN], curve({(1, 1): 1, (0, 0): -1}), curve({(4, 0): 1, (2, 2): 2, (0, 4): 1, (1, 1): -1})),
    ([AT_ORIGIN], curve({(3, 0): 1, (0, 2): -1}), curve({(3, 0): 1, (2, 2): -1, (0, 4): -1})),
    # one behind the other
    ([AT_ORIGIN, ("shift", (0, 1), (3, 1))], curve({(1, 0): 1, (0, 0): -1}),
     curve({(2, 0): 1, (0, 2): 1, (1, 0): -1, (0, 1): -6, (0, 0): 9})),
    ([("shift", (0, 1), (3, 1)), AT_ORIGIN], curve({(0, 1): 1, (0, 0): -1}), curve({(2, 0): 4, (0, 2): 4, (0, 1): -1})),
    ([AT_ORIGIN, AT_ORIGIN], PARABOLA, normal(PARABOLA)),
    # lead by lead: what the one invert multiplied up is not given back by the next one
    ([AT_ORIGIN, AT_ORIGIN], ROUND, ONE),
    ([AT_ORIGIN, AT_ORIGIN], curve_times(ROUND, X), X),
)


def poly_times(one, other):
    told = {}
    for mine, value in one.items():
        for theirs, factor in other.items():
            key = (mine[0] + theirs[0], mine[1] + theirs[1])
            told[key] = told.get(key, 0) + value * factor
    return told


def poly_power(one, power):
    told = {(0, 0): Fraction(1)}
    for turn in range(power):
        told = poly_times(told, one)
    return told


def poly_total(rows):
    told = {}
    for row in rows:
        for key, value in row.items():
            told[key] = told.get(key, 0) + value
    return {key: value for key, value in told.items() if value != 0}


def over_round(poly, x, y):
    """Divided by (X - x)(X - x) + (Y - y)(Y - y), from the greatest power of Y down, or None where something is left."""
    divisor = {(2, 0): Fraction(1), (0, 2): Fraction(1), (1, 0): -2 * x, (0, 1): -2 * y, (0, 0): x * x + y * y}
    quotient = {}
    while any(key[1] >= 2 for key in poly):
        key = max(poly, key=lambda one: (one[1], one[0]))
        part = {(key[0], key[1] - 2): poly[key]}
        quotient = poly_total([quotient, part])
        poly = poly_total([poly, poly_times(part, {powers: -value for powers, value in divisor.items()})])
    return None if poly else quotient


def normal_by_hand(poly):
    bottom = lcm(*[value.denominator for value in poly.values()])
    shared = gcd(*[int(value * bottom) for value in poly.values()])
    sign = 1 if poly[max(poly)] > 0 else -1
    return {key: (sign * int(value * bottom) // shared, 1) for key, value in poly.items()}


def led_by_hand(lead, poly):
    numbers = [worth(part) for part in led_back([lead])[0][1:]]
    x, y = {(1, 0): Fraction(1)}, {(0, 1): Fraction(1)}
    bottom = {(0, 0): Fraction(1)}
    if lead[0] == "shift":
        tops = ({(1, 0): 1, (0, 0): numbers[0]}, {(0, 1): 1, (0, 0): numbers[1]})
    elif lead[0] == "mirror":
        a, b, c = numbers
        square = a * a + b * b
        off = {(1, 0): a, (0, 1): b, (0, 0): c}
        tops = (poly_total([x, poly_times({(0, 0): -2 * a / square}, off)]),
                poly_total([y, poly_times({(0, 0): -2 * b / square}, off)]))
    else:
        middle = numbers[:2]
        u, v = {(1, 0): Fraction(1), (0, 0): -middle[0]}, {(0, 1): Fraction(1), (0, 0): -middle[1]}
        p, q = (numbers[2], numbers[3]) if lead[0] == "turn" else (numbers[2], 0)
        if lead[0] == "invert":
            bottom = poly_total([poly_times(u, u), poly_times(v, v)])
        tops = (
            poly_total([poly_times({(0, 0): middle[0]}, bottom), poly_times({(0, 0): p}, u), poly_times({(0, 0): -q}, v)]),
            poly_total([poly_times({(0, 0): middle[1]}, bottom), poly_times({(0, 0): q}, u), poly_times({(0, 0): p}, v)]))
    degree = max(i + j for i, j in poly)
    told = poly_total([
        poly_times({(0, 0): value}, poly_times(poly_times(poly_power(tops[0], i), poly_power(tops[1], j)),
                                               poly_power(bottom, degree - i - j)))
        for (i, j), value in poly.items()])
    rest = told if lead[0] == "invert" else None
    while rest:
        told, rest = rest, over_round(rest, numbers[0], numbers[1])
    return told


class CurvesLedTest(unittest.TestCase):

    def test_written_out(self):
        for leads, given, told in LED:
            self.assertEqual(curve_led(leads, given), told, (leads, given))
            self.assertEqual(curve_led(tuple(leads), curve_grown(given, (-2, 3))), told, (leads, given))

    def test_no_leads(self):
        for given in (PARABOLA, curve({(1, 0): HALF}), normal(PARABOLA), curve({(0, 0): -3})):
            for leads in ([], ()):
                told = curve_led(leads, given)
                self.assertEqual(told, normal(given))
                self.assertIsNot(told, given)

    def test_degree_nought(self):
        chance = random.Random(80)
        for word in LEAD_WORDS:
            for value in (1, -1, Fraction(5, 3), Fraction(-7, 2), great_fraction(chance)):
                self.assertEqual(curve_led([some_lead(chance, word)], {(0, 0): pair(value)}), ONE)
                self.assertEqual(curve_led(some_leads(chance), {(0, 0): pair(value)}), ONE)

    def test_against_what_the_document_tells(self):
        chance = random.Random(81)
        for turn in range(150):
            leads = some_leads(chance, chance.randint(1, 3), 2) if turn >= 50 else [
                some_lead(chance, LEAD_WORDS[turn % 5])]
            given = some_curve(chance) or X
            told = {key: worth(value) for key, value in given.items()}
            for lead in leads:
                told = led_by_hand(lead, told)
            self.assertEqual(curve_led(leads, given), normal_by_hand(told), (leads, given))

    def test_rounds_within_are_taken_out(self):
        chance = random.Random(82)
        for turn in range(60):
            lead = some_lead(chance, "invert")
            middle = plain(worth(lead[1]), worth(lead[2]))
            round_curve = {(2, 0): (1, 1), (0, 2): (1, 1), (1, 0): pair(-2 * worth(lead[1])),
                           (0, 1): pair(-2 * worth(lead[2])), (0, 0): pair(worth(lead[1]) ** 2 + worth(lead[2]) ** 2)}
            round_curve = {key: value for key, value in round_curve.items() if value[0]}
            self.assertTrue(on_curve(round_curve, middle))
            given = some_curve(chance, 1) or Y
            told = curve_led([lead], curve_times(round_curve, given))
            self.assertEqual(told, curve_led([lead], given))
            poly = {key: worth(value) for key, value in told.items()}
            self.assertIsNone(over_round(poly, worth(lead[1]), worth(lead[2])))

    def test_points_on_and_off(self):
        chance = random.Random(83)
        seen = {True: 0, False: 0}
        for turn in range(150):
            leads = some_leads(chance, chance.randint(1, 6), 2)
            given = some_curve(chance)
            point = plain(small_fraction(chance), small_fraction(chance))
            if turn % 2 == 0:
                # The number alone is made such that the point lies on it.
                value = worth(given.pop((0, 0), (0, 1)))
                value -= side_at(given, *spot(point)) + value
                given.update(curve({(0, 0): value}))
            if not given:
                continue
            try:
                led_point = led(leads, point)
            except NoQuotient:
                continue
            told = curve_led(leads, given)
            self.assertTrue(looks_normal(told))
            on = side_at(given, *spot(point)) == 0
            seen[on] += 1
            self.assertIs(on_curve(told, led_point), on, (leads, given, point))
        self.assertGreater(min(seen.values()), 40)

    def test_points_with_roots(self):
        chance = random.Random(84)
        point = rooted((1, 1), (0, 1))
        # (1 + root 2, root 2): on x - y - 1 and on x x - 2 x - 1.
        for given in (curve({(1, 0): 1, (0, 1): -1, (0, 0): -1}), curve({(2, 0): 1, (1, 0): -2, (0, 0): -1}),
                      curve({(0, 2): 1, (0, 0): -2})):
            for turn in range(20):
                leads = some_leads(chance, 3, 2)
                self.assertIs(on_curve(curve_led(leads, given), led(leads, point)), True)
                self.assertIs(on_curve(curve_led(leads, curve_times(given, X)), led(leads, point)), True)
                self.assertIs(on_curve(curve_led(leads, Y), led(leads, point)), False)

    def test_flat_leads_keep_the_degree_and_lead_back(self):
        chance = random.Random(85)
        for turn in range(60):
            leads = some_leads(chance, chance.randint(1, 4), 0)
            given = some_curve(chance) or X
            told = curve_led(leads, given)
            self.assertEqual(degree_of(told), degree_of(given))
            self.assertEqual(curve_led(led_back(leads), told), normal(given))

    def test_somewhat_beyond(self):
        # Of degree five, by three inverts.
        chance = random.Random(86)
        leads = [some_lead(chance, "invert") for turn in range(3)]
        given = some_curve(chance, 5)
        told = curve_led(leads, given)
        point = plain(small_fraction(chance), small_fraction(chance))
        lifted = {key: value for key, value in given.items() if key != (0, 0)}
        lifted.update(curve({(0, 0): -side_at(lifted, *spot(point))}))
        self.assertTrue(looks_normal(told))
        self.assertIs(on_curve(curve_led(leads, lifted), led(leads, point)), True)
        self.assertEqual(curve_led(leads[:1] + leads[:1], given), normal(given))

    def test_great_numbers(self):
        chance = random.Random(87)
        given = {(i, j): pair(great_fraction(chance)) for i in range(4) for j in range(4 - i)}
        leads = some_leads(chance, 4, 0, great_fraction)
        leads[1:1] = [some_lead(chance, "invert", great_fraction) for turn in range(2)]
        told = curve_led(leads, given)
        self.assertTrue(looks_normal(told))
        self.assertEqual(degree_of(told), 6)
        # Told curves are handed in again, whatever their size.
        self.assertEqual(curve_led(led_back(leads), told), normal(given))

    def test_what_is_handed_in_is_left(self):
        leads, given = [AT_ORIGIN, ("shift", (1, 1), (2, 1))], dict(PARABOLA)
        before = copy.deepcopy((leads, given))
        told = curve_led(leads, given)
        self.assertEqual((leads, given), before)
        again = curve_led(leads, given)
        self.assertEqual(again, told)
        self.assertIsNot(again, told)
        told.clear()
        self.assertEqual(curve_led(leads, given), again)


KINDS = (
    (curve({(1, 0): 1}), ("line", (1, 1), (0, 1), (0, 1))),
    (curve({(0, 1): -3}), ("line", (0, 1), (1, 1), (0, 1))),
    (curve({(0, 1): -3, (0, 0): 2}), ("line", (0, 1), (3, 1), (-2, 1))),
    (curve({(1, 0): HALF, (0, 0): Fraction(1, 3)}), ("line", (3, 1), (0, 1), (2, 1))),
    (curve({(1, 0): -2, (0, 1): 4, (0, 0): 6}), ("line", (1, 1), (-2, 1), (-3, 1))),
    (curve({(2, 0): 1, (0, 2): 1, (0, 0): -1}), ("circle", (0, 1), (0, 1), (1, 1))),
    (curve({(2, 0): 2, (0, 2): 2, (0, 0): -1}), ("circle", (0, 1), (0, 1), (1, 2))),
    (curve({(2, 0): -1, (0, 2): -1, (0, 0): 3}), ("circle", (0, 1), (0, 1), (3, 1))),
    (curve({(2, 0): 1, (0, 2): 1, (1, 0): -4, (0, 1): 6, (0, 0): -12}), ("circle", (2, 1), (-3, 1), (25, 1))),
    (curve({(2, 0): 3, (0, 2): 3, (1, 0): 1}), ("circle", (-1, 6), (0, 1), (1, 36))),
    (curve({(2, 0): 3, (0, 2): 3, (0, 1): 1}), ("circle", (0, 1), (-1, 6), (1, 36))),
    (curve({(2, 0): 1, (0, 2): 1, (0, 1): -2, (0, 0): Fraction(2, 3)}), ("circle", (0, 1), (1, 1), (1, 3))),
    # a point, and no point at all
    (ROUND, None),
    (curve({(2, 0): 1, (0, 2): 1, (1, 0): -2, (0, 0): 1}), None),
    (curve({(2, 0): 1, (0, 2): 1, (0, 0): 1}), None),
    (curve({(2, 0): -1, (0, 2): -1, (0, 0): -1}), None),
    (curve({(2, 0): 1, (0, 2): 1, (0, 1): 1, (0, 0): 1}), None),
    # of degree two, yet no circles
    (curve({(2, 0): 1, (0, 0): -1}), None),
    (curve({(0, 2): 1, (0, 0): -1}), None),
    (curve({(1, 1): 1, (0, 0): -1}), None),
    (curve({(2, 0): 1, (0, 2): -1, (0, 0): -1}), None),
    (curve({(2, 0): 1, (0, 2): 2, (0, 0): -1}), None),
    (curve({(2, 0): 1, (0, 2): 1, (1, 1): 1, (0, 0): -1}), None),
    (PARABOLA, None),
    # of degree nought, and from three on
    (ONE, None),
    (curve({(0, 0): -5}), None),
    (curve_times(ROUND, X), None),
    (curve({(3, 0): 1, (2, 0): 1, (0, 2): 1, (0, 0): -1}), None),
    (curve({(2, 1): 1, (2, 0): 1, (0, 2): 1, (0, 0): -1}), None),
)


class KindsTest(RefusalCase):

    def test_written_out(self):
        for given, told in KINDS:
            self.assertEqual(kind_of(given), told, given)
            self.assertEqual(kind_of(curve_grown(given, (-7, 3))), told, given)
            self.assertEqual(kind_of(normal(given)), told, given)

    def test_lines_and_circles_that_were_told(self):
        chance = random.Random(88)
        for turn in range(50):
            x, y, square = small_fraction(chance), small_fraction(chance), abs(small_fraction(chance)) or HALF
            self.assertEqual(kind_of(circle_about(plain(x, y), pair(square))), ("circle", pair(x), pair(y), pair(square)))
            line = line_through(plain(x, y), plain(x + 1, y + square))
            self.assertEqual(kind_of(line), ("line",) + tuple(line.get(key, (0, 1)) for key in ((1, 0), (0, 1), (0, 0))))

    def test_lines_and_circles_are_led_to_such(self):
        chance = random.Random(89)
        seen = []
        for turn in range(300):
            lead = some_lead(chance, LEAD_WORDS[turn % 5])
            x, y = [worth(part) for part in lead[1:3]]
            u, v = small_fraction(chance), small_fraction(chance) or Fraction(1)
            # Every other one goes through (x, y), the middle of an invert.
            through = turn % 2 == 0
            if turn % 3 == 0:
                given = line_through(plain(x + (0 if through else v), y), plain(x + u, y + v))
            else:
                given = circle_about(plain(x + u, y + v), pair(u * u + v * v + (0 if through else 1)))
            told = kind_of(curve_led([lead], given))
            goes_through = side_at(given, x, y) == 0
            if lead[0] == "invert":
                self.assertEqual(told[0], "line" if goes_through else "circle")
                seen.append((kind_of(given)[0], told[0]))
            else:
                self.assertEqual(told[0], kind_of(given)[0])
        self.assertEqual(len(set(seen)), 4)

    def test_a_circle_is_grown_and_moved(self):
        circle = circle_about(plain(1, 2), (3, 1))
        self.assertEqual(kind_of(curve_led([("grow", (0, 1), (0, 1), (-2, 1))], circle)),
                         ("circle", (-2, 1), (-4, 1), (12, 1)))
        self.assertEqual(kind_of(curve_led([("mirror", (1, 1), (0, 1), (0, 1))], circle)),
                         ("circle", (-1, 1), (2, 1), (3, 1)))
        self.assertEqual(kind_of(curve_led([AT_ORIGIN], circle)), ("circle", (1, 2), (1, 1), (3, 4)))

    def test_great_numbers(self):
        chance = random.Random(90)
        x, y, square = great_fraction(chance), great_fraction(chance), abs(great_fraction(chance))
        self.assertEqual(kind_of(circle_about(plain(x, y), pair(square))), ("circle", pair(x), pair(y), pair(square)))
        leads = some_leads(chance, 6, 2, great_fraction)
        told = curve_led(leads, circle_about(plain(x, y), pair(square)))
        self.assertEqual(kind_of(told)[0], "circle")

    def test_what_is_handed_in_is_left(self):
        for given, told in KINDS:
            before = copy.deepcopy(given)
            kind_of(given)
            self.assertEqual(given, before)


if __name__ == "__main__":
    unittest.main()
