"""[70] Points that are led, [71] and leads that lead back."""

import copy
import random
import unittest
from fractions import Fraction

from helps import (
    LEAD_WORDS, RefusalCase, great_fraction, looks_like_fraction, looks_like_number, number, pair, plain, rooted,
    small_fraction, some_lead, some_leads, turn_numbers, worth,
)
from hingedraw.errors import NoQuotient
from hingedraw.leads import led, led_back
from hingedraw.roots import one_field

HALF = Fraction(1, 2)
TURN = ("turn", (0, 1), (0, 1), (3, 5), (4, 5))
LEFT = ("turn", (1, 1), (0, 1), (0, 1), (1, 1))

PLAIN = (
    (("shift", (3, 1), (-1, 2)), plain(1, 2), plain(4, Fraction(3, 2))),
    (("shift", (0, 1), (0, 1)), plain(1, 2), plain(1, 2)),
    (("grow", (1, 1), (1, 1), (-2, 1)), plain(2, 3), plain(-1, -3)),
    (("grow", (0, 1), (0, 1), (1, 3)), plain(2, 3), plain(Fraction(2, 3), 1)),
    (("grow", (5, 1), (7, 1), (9, 1)), plain(5, 7), plain(5, 7)),
    (TURN, plain(5, 0), plain(3, 4)),
    (TURN, plain(0, 5), plain(-4, 3)),
    (("turn", (0, 1), (0, 1), (3, 5), (-4, 5)), plain(0, 5), plain(4, 3)),
    (LEFT, plain(2, 0), plain(1, 1)),
    (LEFT, plain(1, 1), plain(0, 0)),
    (LEFT, plain(1, 0), plain(1, 0)),
    (("turn", (2, 1), (1, 1), (-1, 1), (0, 1)), plain(3, 5), plain(1, -3)),
    (("mirror", (1, 1), (0, 1), (-2, 1)), plain(5, 7), plain(-1, 7)),
    (("mirror", (0, 1), (3, 1), (0, 1)), plain(5, 7), plain(5, -7)),
    (("mirror", (1, 1), (1, 1), (-1, 1)), plain(0, 0), plain(1, 1)),
    (("mirror", (-2, 1), (-2, 1), (2, 1)), plain(3, 0), plain(1, -2)),
    (("mirror", (1, 1), (-2, 1), (0, 1)), plain(5, 0), plain(3, 4)),
    (("mirror", (1, 1), (1, 1), (-1, 1)), plain(HALF, HALF), plain(HALF, HALF)),
    (("invert", (0, 1), (0, 1), (4, 1)), plain(1, 0), plain(4, 0)),
    (("invert", (0, 1), (0, 1), (4, 1)), plain(1, 1), plain(2, 2)),
    (("invert", (0, 1), (0, 1), (4, 1)), plain(0, -2), plain(0, -2)),
    (("invert", (0, 1), (0, 1), (-4, 1)), plain(1, 0), plain(-4, 0)),
    (("invert", (0, 1), (0, 1), (-4, 1)), plain(0, 2), plain(0, -2)),
    (("invert", (1, 1), (2, 1), (3, 1)), plain(1, 5), plain(1, 3)),
    (("invert", (1, 1), (2, 1), (5, 2)), plain(2, 4), plain(Fraction(3, 2), 3)),
    (("invert", (1, 2), (0, 1), (-1, 3)), plain(1, 0), plain(Fraction(-1, 6), 0)),
)

ROOTED = (
    (("shift", (1, 1), (2, 1)), rooted((0, 1), (0, 0)), rooted((1, 1), (2, 0))),
    (("grow", (1, 1), (0, 1), (-3, 1)), rooted((1, 1), (0, 2)), rooted((1, -3), (0, -6))),
    (TURN, rooted((0, 5), (0, 0)), rooted((0, 3), (0, 4))),
    (LEFT, rooted((1, 0), (0, 1)), rooted((1, -1), (0, 0))),
    (("mirror", (1, 1), (-1, 1), (0, 1)), rooted((0, 1), (3, -1)), rooted((3, -1), (0, 1))),
    (("invert", (0, 1), (0, 1), (1, 1)), rooted((0, 1), (0, 0)), rooted((0, HALF), (0, 0))),
    (("invert", (0, 1), (0, 1), (1, 1)), rooted((1, 1), (0, 0)), rooted((-1, 1), (0, 0))),
    (("invert", (0, 1), (0, 1), (-1, 1)), rooted((1, 1), (0, 0)), rooted((1, -1), (0, 0))),
    (("invert", (1, 1), (1, 1), (3, 1)), rooted((2, 0), (1, 1)), rooted((2, 0), (1, 1))),
    (("invert", (0, 1), (0, 1), (6, 1)), rooted((0, 1), (0, 1)), rooted((0, Fraction(3, 2)), (0, Fraction(3, 2)))),
)


class Rooty:
    """part + portion * root(base), by Fractions."""

    def __init__(self, part, portion, base):
        self.part, self.portion, self.base = Fraction(part), Fraction(portion), Fraction(base)

    def __add__(self, other):
        return Rooty(self.part + other.part, self.portion + other.portion, self.base)

    def __sub__(self, other):
        return Rooty(self.part - other.part, self.portion - other.portion, self.base)

    def __mul__(self, other):
        return Rooty(self.part * other.part + self.portion * other.portion * self.base,
                     self.part * other.portion + self.portion * other.part, self.base)

    def __truediv__(self, other):
        norm = other.part ** 2 - other.portion ** 2 * other.base
        return self * Rooty(other.part / norm, -other.portion / norm, self.base)

    def told(self):
        return number(self.part, self.portion, self.base)


def led_by_hand(lead, x, y):
    """As the document tells it, one lead on two Rooties."""
    first, second, third, fourth = [Rooty(worth(part), 0, x.base) for part in (lead[1:] + ((0, 1), (0, 1)))[:4]]
    if lead[0] == "shift":
        return x + first, y + second
    if lead[0] == "mirror":
        off = (first * x + second * y + third) / (first * first + second * second)
        return x - off * first - off * first, y - off * second - off * second
    u, v = x - first, y - second
    if lead[0] == "grow":
        return first + third * u, second + third * v
    if lead[0] == "turn":
        return first + third * u - fourth * v, second + fourth * u + third * v
    by = third / (u * u + v * v)
    return first + by * u, second + by * v


class PointsLedTest(RefusalCase):

    def test_plain_points(self):
        for lead, point, told in PLAIN:
            self.assertEqual(led([lead], point), told, (lead, point))

    def test_points_with_roots(self):
        for lead, point, told in ROOTED:
            self.assertEqual(led([lead], point), told, (lead, point))

    def test_roots_below_nought_and_unlike_unders_of_one_field(self):
        point = (((1, 1), (-2, 1)), ((0, 1), (8, 1)))
        self.assertEqual(led([("shift", (1, 1), (1, 1))], point), (((2, 1), (-2, 1)), ((1, 1), (8, 1))))
        self.assertEqual(led([("grow", (0, 1), (0, 1), (-1, 2))], point), (((-1, 2), (1, 2)), ((0, 1), (-2, 1))))
        self.assertEqual(led([("turn", (0, 1), (0, 1), (0, 1), (1, 1))], point), (((0, 1), (-8, 1)), ((1, 1), (-2, 1))))

    def test_a_root_that_falls_away_in_one_of_both(self):
        self.assertEqual(led([TURN], rooted((0, 3), (0, -4))), (number(0, 5), number(0)))
        self.assertEqual(led([TURN], rooted((0, 4), (1, 3))), (number(Fraction(-4, 5)), number(Fraction(3, 5), 5)))

    def test_no_leads(self):
        for point in (plain(1, HALF), rooted((1, 2), (HALF, -3)), plain(0, 0)):
            self.assertEqual(led([], point), point)
            self.assertEqual(led((), point), point)

    def test_one_behind_the_other(self):
        shift, grow = ("shift", (1, 1), (0, 1)), ("grow", (0, 1), (0, 1), (2, 1))
        self.assertEqual(led([shift, grow], plain(1, 1)), plain(4, 2))
        self.assertEqual(led([grow, shift], plain(1, 1)), plain(3, 2))
        six = [shift, TURN, ("mirror", (0, 1), (1, 1), (0, 1)), ("invert", (0, 1), (0, 1), (25, 1)), grow, shift]
        # (4, 0), (5, 0), (3, 4), (3, -4), the same again, (6, -8), (7, -8)
        self.assertEqual(led(six, plain(4, 0)), plain(7, -8))
        self.assertEqual(led(tuple(six), plain(4, 0)), plain(7, -8))

    def test_the_middle_of_an_invert(self):
        invert = ("invert", (1, 2), (-3, 1), (2, 1))
        self.assert_refused(NoQuotient, led, [invert], plain(HALF, -3))
        self.assert_refused(NoQuotient, led, (invert,), plain(HALF, -3))
        self.assert_refused(NoQuotient, led, [("shift", (1, 1), (0, 1)), invert], plain(-HALF, -3))
        self.assert_refused(NoQuotient, led, [invert, ("shift", (1, 1), (0, 1)), invert], plain(HALF, -3))
        # Led to a middle at the second invert, and one behind it that would lead on.
        first, second = ("invert", (0, 1), (0, 1), (1, 1)), ("invert", (1, 1), (0, 1), (-1, 1))
        self.assertEqual(led([first], plain(1, 0)), plain(1, 0))
        self.assert_refused(NoQuotient, led, [first, second], plain(1, 0))
        self.assert_refused(NoQuotient, led, [first, second, first], plain(1, 0))
        self.assert_refused(NoQuotient, led, [first, second, second], plain(1, 0))
        for point in (plain(HALF, 3), plain(-HALF, -3), plain(0, -3), rooted((HALF, 1), (-3, 0)),
                      rooted((HALF, 0), (-3, 1)), plain(HALF + Fraction(1, 10 ** 59), -3)):
            self.assertTrue(looks_like_number(led([invert], point)[0]))

    def test_both_ways_are_of_the_power_and_in_one_direction(self):
        chance = random.Random(70)
        for turn in range(100):
            lead = some_lead(chance, "invert")
            x, y, power = [worth(part) for part in lead[1:]]
            u, v = small_fraction(chance), small_fraction(chance) or Fraction(1)
            told = led([lead], plain(x + u, y + v))
            across, up = worth(told[0][0]) - x, worth(told[1][0]) - y
            self.assertEqual((u * u + v * v) * (across * across + up * up), power * power)
            self.assertEqual(u * up - v * across, 0)
            self.assertEqual(u * across + v * up > 0, power > 0)

    def test_against_what_the_document_tells(self):
        chance = random.Random(71)
        for turn in range(150):
            base = chance.choice((2, 3, 5, Fraction(1, 2), Fraction(6, 7), 12))
            kind = chance.choice((small_fraction, great_fraction)) if turn % 10 == 0 else small_fraction
            leads = some_leads(chance, chance.randint(1, 6 if kind is small_fraction else 3), kind=kind)
            portions = [kind(chance) if chance.random() < 0.6 else 0 for number in range(2)]
            x, y = Rooty(kind(chance), portions[0], base), Rooty(kind(chance), portions[1], base)
            point = (x.told(), y.told())
            try:
                for lead in leads:
                    x, y = led_by_hand(lead, x, y)
            except ZeroDivisionError:
                self.assert_refused(NoQuotient, led, leads, point)
                continue
            told = led(chance.choice((list, tuple))(leads), point)
            self.assertEqual(told, (x.told(), y.told()))
            self.assertTrue(looks_like_number(told[0]) and looks_like_number(told[1]))
            self.assertTrue(one_field(told[0], told[1]))

    def test_six_great_inverts(self):
        chance = random.Random(72)
        leads = [some_lead(chance, "invert", great_fraction) for turn in range(6)]
        base = abs(great_fraction(chance))
        point = (number(great_fraction(chance), great_fraction(chance), base),
                 number(great_fraction(chance), great_fraction(chance), base))
        told = led(leads, point)
        self.assertEqual(led(led_back(leads), told), point)

    def test_what_is_handed_in_is_left(self):
        leads = [lead for lead, point, told in PLAIN[:6]]
        before = copy.deepcopy(leads)
        led(leads, plain(1, 2))
        led_back(leads)
        self.assertEqual(leads, before)


class LedBackTest(unittest.TestCase):

    def test_written_out(self):
        for lead, told in (
            (("shift", (3, 1), (-1, 2)), ("shift", (-3, 1), (1, 2))),
            (("shift", (0, 1), (0, 1)), ("shift", (0, 1), (0, 1))),
            (("grow", (1, 2), (1, 1), (-2, 1)), ("grow", (1, 2), (1, 1), (-1, 2))),
            (("grow", (1, 2), (1, 1), (3, 7)), ("grow", (1, 2), (1, 1), (7, 3))),
            (("turn", (1, 2), (2, 1), (3, 5), (4, 5)), ("turn", (1, 2), (2, 1), (3, 5), (-4, 5))),
            (("turn", (1, 2), (2, 1), (-1, 1), (0, 1)), ("turn", (1, 2), (2, 1), (-1, 1), (0, 1))),
            (("mirror", (1, 2), (0, 1), (5, 1)), ("mirror", (1, 2), (0, 1), (5, 1))),
            (("invert", (1, 2), (0, 1), (-5, 1)), ("invert", (1, 2), (0, 1), (-5, 1))),
        ):
            self.assertEqual(led_back([lead]), [told])
            self.assertEqual(led_back((lead,)), [told])

    def test_in_the_other_order(self):
        leads = (("shift", (1, 1), (2, 1)), TURN, ("mirror", (1, 1), (1, 1), (1, 1)), ("grow", (0, 1), (0, 1), (2, 1)))
        told = led_back(leads)
        self.assertIs(type(told), list)
        self.assertEqual(told, [
            ("grow", (0, 1), (0, 1), (1, 2)), ("mirror", (1, 1), (1, 1), (1, 1)),
            ("turn", (0, 1), (0, 1), (3, 5), (-4, 5)), ("shift", (-1, 1), (-2, 1))])
        self.assertEqual(led_back(list(leads)), told)

    def test_no_leads(self):
        leads = []
        told = led_back(leads)
        self.assertEqual(told, [])
        self.assertIsNot(told, leads)
        self.assertEqual(led_back(()), [])

    def test_back_of_back(self):
        chance = random.Random(73)
        for turn in range(50):
            leads = some_leads(chance, chance.randint(1, 6))
            told = led_back(leads)
            self.assertEqual(led_back(told), leads)
            self.assertEqual([lead[0] for lead in told], [lead[0] for lead in reversed(leads)])
            for lead in told:
                self.assertIs(type(lead), tuple)
                self.assertTrue(all(looks_like_fraction(part) for part in lead[1:]))

    def test_led_and_led_back(self):
        chance = random.Random(74)
        for word in LEAD_WORDS:
            for turn in range(20):
                lead = some_lead(chance, word)
                point = rooted((small_fraction(chance), 1), (small_fraction(chance), small_fraction(chance)), 3)
                self.assertEqual(led(led_back([lead]), led([lead], point)), point)
        for turn in range(100):
            leads = some_leads(chance, chance.randint(2, 6))
            point = plain(small_fraction(chance), small_fraction(chance))
            if turn % 2 == 0:
                point = rooted((small_fraction(chance), small_fraction(chance)), (small_fraction(chance), 2), 5)
            try:
                told = led(leads, point)
            except NoQuotient:
                continue
            self.assertEqual(led(led_back(leads), told), point)

    def test_great_turns(self):
        chance = random.Random(75)
        p, q = turn_numbers(Fraction(chance.randrange(10 ** 29), chance.randrange(10 ** 29)))
        lead = ("turn", pair(great_fraction(chance)), pair(great_fraction(chance)), pair(p), pair(q))
        point = plain(great_fraction(chance), great_fraction(chance))
        self.assertEqual(led(led_back([lead]), led([lead], point)), point)


if __name__ == "__main__":
    unittest.main()
