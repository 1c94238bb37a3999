"""[22] Where circles meet circles, and lines circles."""

import random
import unittest
from decimal import Decimal, localcontext
from fractions import Fraction

from helps import RefusalCase, great_fraction, looks_like_number, number, pair, plain, rooted, small_fraction, worth
from hingedraw.errors import NoMeet
from hingedraw.points import circles_meet, line_meets
from hingedraw.roots import one_field

HALF = Fraction(1, 2)

CIRCLES = (
    # at two points, plain ones
    (plain(0, 0), (25, 1), plain(6, 0), (25, 1), [plain(3, 4), plain(3, -4)]),
    (plain(6, 0), (25, 1), plain(0, 0), (25, 1), [plain(3, -4), plain(3, 4)]),
    (plain(0, 0), (1, 1), plain(1, 1), (1, 1), [plain(0, 1), plain(1, 0)]),
    (plain(0, 0), (1, 4), plain(HALF, -HALF), (1, 4), [plain(HALF, 0), plain(0, -HALF)]),
    (plain(0, 0), (25, 1), plain(9, 0), (52, 1), [plain(3, 4), plain(3, -4)]),
    # the one middle within the other circle
    (plain(0, 0), (25, 1), plain(2, 0), (17, 1), [plain(3, 4), plain(3, -4)]),
    # beyond the other middle
    (plain(0, 0), (25, 1), plain(-1, 0), (32, 1), [plain(3, -4), plain(3, 4)]),
    # with roots, in y, in x, in both
    (plain(0, 0), (1, 1), plain(1, 0), (1, 1),
     [(number(HALF), number(0, HALF, 3)), (number(HALF), number(0, -HALF, 3))]),
    (plain(0, 0), (1, 1), plain(0, 1), (1, 1),
     [(number(0, -HALF, 3), number(HALF)), (number(0, HALF, 3), number(HALF))]),
    (plain(0, 0), (2, 1), plain(1, 2), (2, 1), [
        (((1, 2), (-3, 5)), ((1, 1), (3, 20))), (((1, 2), (3, 5)), ((1, 1), (-3, 20)))]),
    (plain(1, 1), (3, 1), plain(2, 2), (3, 1), [
        rooted((Fraction(3, 2), -HALF), (Fraction(3, 2), HALF), 5),
        rooted((Fraction(3, 2), HALF), (Fraction(3, 2), -HALF), 5)]),
    # that touch, from outside and from inside
    (plain(0, 0), (4, 1), plain(5, 0), (9, 1), [plain(2, 0)]),
    (plain(0, 0), (2, 1), plain(3, 3), (8, 1), [plain(1, 1)]),
    (plain(0, 0), (25, 1), plain(3, 0), (4, 1), [plain(5, 0)]),
    (plain(3, 0), (4, 1), plain(0, 0), (25, 1), [plain(5, 0)]),
    (plain(0, 0), (8, 1), plain(1, 1), (2, 1), [plain(2, 2)]),
    # that do not meet: too far, the one within the other
    (plain(0, 0), (4, 1), plain(6, 0), (9, 1), []),
    (plain(0, 0), (4, 1), plain(5, 0), (10 ** 59 * 9 - 1, 10 ** 59), []),
    (plain(0, 0), (25, 1), plain(1, 0), (4, 1), []),
    (plain(1, 0), (4, 1), plain(0, 0), (25, 1), []),
)

LINES = (
    # the middle on the line
    (plain(0, 0), plain(1, 0), plain(3, 0), (4, 1), [plain(1, 0), plain(5, 0)]),
    (plain(1, 0), plain(0, 0), plain(3, 0), (4, 1), [plain(5, 0), plain(1, 0)]),
    (plain(9, 0), plain(7, 0), plain(3, 0), (4, 1), [plain(5, 0), plain(1, 0)]),
    (plain(2, -7), plain(2, 7), plain(2, 1), (2, 1), [rooted((2, 0), (1, -1)), rooted((2, 0), (1, 1))]),
    (plain(0, 0), plain(5, 5), plain(1, 1), (1, 1), [
        rooted((1, -HALF), (1, -HALF)), rooted((1, HALF), (1, HALF))]),
    # the middle off the line
    (plain(0, 0), plain(1, 0), plain(3, 1), (2, 1), [plain(2, 0), plain(4, 0)]),
    (plain(0, 0), plain(-1, 0), plain(3, 1), (2, 1), [plain(4, 0), plain(2, 0)]),
    (plain(0, 0), plain(1, 0), plain(3, -1), (3, 1), [rooted((3, -1), (0, 0)), rooted((3, 1), (0, 0))]),
    (plain(0, 1), plain(1, 0), plain(0, 0), (1, 1), [plain(0, 1), plain(1, 0)]),
    (plain(1, 0), plain(0, 1), plain(0, 0), (1, 1), [plain(1, 0), plain(0, 1)]),
    # both points within the circle, and the middle one of them
    (plain(0, 0), plain(1, 0), plain(0, 0), (9, 1), [plain(-3, 0), plain(3, 0)]),
    # that touch
    (plain(0, 0), plain(1, 0), plain(3, 2), (4, 1), [plain(3, 0)]),
    (plain(0, 2), plain(2, 0), plain(0, 0), (2, 1), [plain(1, 1)]),
    # that do not meet
    (plain(0, 0), plain(1, 0), plain(3, 2), (10 ** 59 * 4 - 1, 10 ** 59), []),
    (plain(0, 2), plain(2, 0), plain(0, 0), (1, 1), []),
)


def figure(one):
    """The worth of a root number, to many figures."""
    root = (Decimal(abs(one[1][0])) / Decimal(one[1][1])).sqrt()
    return Decimal(one[0][0]) / Decimal(one[0][1]) + (-root if one[1][0] < 0 else root)


def at_square(point, middle, square):
    """Whether the square of the distance of the point from the middle is just this, by parts and roots apart."""
    parts, rests = [], []
    for (part, under), start in zip(point, middle):
        apart = worth(part) - start
        parts.append(apart ** 2 + abs(worth(under)))
        # Times its root, with the root's sign kept: so the squares tell whether both roots' sum falls away.
        rests.append(apart * abs(apart) * worth(under))
    return sum(parts) == square and sum(rests) == 0


class MeetCase(RefusalCase):

    def assert_points(self, found):
        self.assertIs(type(found), list)
        for point in found:
            self.assertIs(type(point), tuple)
            self.assertEqual(len(point), 2)
            self.assertTrue(looks_like_number(point[0]) and looks_like_number(point[1]), point)
            self.assertTrue(one_field(point[0], point[1]))

    def assert_own(self, asked, *given):
        first = asked(*given)
        before = list(first)
        second = asked(*given)
        self.assertIsNot(first, second)
        first.append("mine")
        self.assertEqual(second, before)
        self.assertEqual(asked(*given), before)


class CirclesMeetTest(MeetCase):

    def test_written_out(self):
        for one, square, other, other_square, told in CIRCLES:
            self.assertEqual(circles_meet(one, square, other, other_square), told)

    def check(self, one, square, other, other_square):
        found = circles_meet(plain(*one), pair(square), plain(*other), pair(other_square))
        self.assert_points(found)
        apart = sum((end - start) ** 2 for start, end in zip(one, other))
        # They meet where the three lengths can be a triangle's: sixteen times the square of its area.
        area = 4 * apart * square - (apart + square - other_square) ** 2
        self.assertEqual(len(found), 1 + (area > 0) - (area < 0))
        for point in found:
            self.assertTrue(at_square(point, one, square) and at_square(point, other, other_square))
        if len(found) == 2:
            u, v = (Decimal(end.numerator) / end.denominator - Decimal(start.numerator) / start.denominator
                    for start, end in zip(one, other))
            self.assertGreater(u * (figure(found[0][1]) - figure(found[1][1])),
                               v * (figure(found[0][0]) - figure(found[1][0])))
        return len(found)

    def test_some(self):
        chance = random.Random(50)
        seen = []
        with localcontext() as context:
            context.prec = 600
            for turn in range(400):
                one, other = [tuple(small_fraction(chance) for part in range(2)) for which in range(2)]
                if one != other:
                    square, other_square = (Fraction(chance.randint(1, 400), chance.randint(1, 5)) for part in range(2))
                    seen.append(self.check(one, square, other, other_square))
        self.assertGreater(seen.count(2), 50)
        self.assertGreater(seen.count(0), 50)

    def test_some_that_touch(self):
        chance = random.Random(51)
        for turn in range(150):
            one = tuple(small_fraction(chance) for part in range(2))
            way = tuple(small_fraction(chance) for part in range(2))
            by, length = small_fraction(chance), sum(part ** 2 for part in way)
            if length and by not in (0, 1):
                other = tuple(start + part for start, part in zip(one, way))
                told = [plain(*(start + by * part for start, part in zip(one, way)))]
                given = (plain(*one), pair(by ** 2 * length), plain(*other), pair((1 - by) ** 2 * length))
                self.assertEqual(circles_meet(*given), told)

    def test_great_ones(self):
        chance = random.Random(52)
        with localcontext() as context:
            context.prec = 600
            seen = []
            for turn in range(40):
                bottom = chance.randrange(10 ** 59, 10 ** 60)
                numbers = [Fraction(chance.randrange(10 ** 59, 10 ** 60), bottom - part) for part in range(6)]
                seen.append(self.check(numbers[:2], 5 * numbers[4], numbers[2:4], 5 * numbers[5]))
        self.assertGreater(seen.count(2), 5)

    def test_one_middle_twice_is_refused(self):
        for middle in (plain(0, 0), plain(Fraction(-1, 3), 5), plain(10 ** 59, Fraction(1, 10 ** 59))):
            for squares in (((1, 1), (1, 1)), ((1, 1), (2, 1)), ((5, 3), (2, 7))):
                self.assert_refused(NoMeet, circles_meet, middle, squares[0], middle, squares[1])

    def test_the_list_is_the_askers_own(self):
        for one, square, other, other_square, told in CIRCLES:
            self.assert_own(circles_meet, one, square, other, other_square)


class LineMeetsTest(MeetCase):

    def test_written_out(self):
        for one, other, middle, square, told in LINES:
            self.assertEqual(line_meets(one, other, middle, square), told)

    def check(self, one, other, middle, square):
        found = line_meets(plain(*one), plain(*other), plain(*middle), pair(square))
        self.assert_points(found)
        u, v = (end - start for start, end in zip(one, other))
        x, y = (end - start for start, end in zip(one, middle))
        room = square * (u * u + v * v) - (u * y - v * x) ** 2
        self.assertEqual(len(found), 1 + (room > 0) - (room < 0))
        for point in found:
            self.assertTrue(at_square(point, middle, square))
            # On the line: the parts by themselves and the roots by themselves come to 0.
            (part, under), (other_part, beneath) = point
            self.assertEqual(u * (worth(other_part) - one[1]), v * (worth(part) - one[0]))
            self.assertEqual(u ** 2 * abs(worth(beneath)), v ** 2 * abs(worth(under)))
            self.assertGreaterEqual(u * beneath[0] * v * under[0], 0)
        if len(found) == 2:
            rise = [figure(found[1][at]) - figure(found[0][at]) for at in (0, 1)]
            along = [Decimal(part.numerator) / part.denominator for part in (u, v)]
            self.assertGreater(along[0] * rise[0] + along[1] * rise[1], 0)
        return len(found)

    def test_some(self):
        chance = random.Random(53)
        seen = []
        with localcontext() as context:
            context.prec = 600
            for turn in range(400):
                one, other, middle = [tuple(small_fraction(chance) for part in range(2)) for which in range(3)]
                if one != other:
                    seen.append(self.check(one, other, middle, Fraction(chance.randint(1, 200), chance.randint(1, 5))))
                    # with the middle on the line too
                    by = small_fraction(chance)
                    middle = tuple(start + by * (end - start) for start, end in zip(one, other))
                    self.check(one, other, middle, Fraction(chance.randint(1, 200), chance.randint(1, 5)))
        self.assertGreater(seen.count(2), 50)
        self.assertGreater(seen.count(0), 50)

    def test_some_that_touch(self):
        chance = random.Random(54)
        for turn in range(150):
            one, way = [tuple(small_fraction(chance) for part in range(2)) for which in range(2)]
            along, aside = small_fraction(chance), small_fraction(chance)
            if way != (0, 0) and aside != 0:
                u, v = way
                point = (one[0] + along * u, one[1] + along * v)
                middle = (point[0] - aside * v, point[1] + aside * u)
                other = (one[0] + u, one[1] + v)
                square = aside ** 2 * (u * u + v * v)
                self.assertEqual(line_meets(plain(*one), plain(*other), plain(*middle), pair(square)), [plain(*point)])

    def test_great_ones(self):
        chance = random.Random(55)
        with localcontext() as context:
            context.prec = 1200
            for turn in range(40):
                one, other, middle = [(great_fraction(chance), great_fraction(chance)) for which in range(3)]
                self.check(one, other, middle, abs(great_fraction(chance)))

    def test_one_point_twice_is_refused(self):
        for point in (plain(0, 0), plain(Fraction(-1, 3), 5), plain(10 ** 59, Fraction(1, 10 ** 59))):
            for middle in (point, plain(1, 2)):
                self.assert_refused(NoMeet, line_meets, point, point, middle, (1, 1))

    def test_the_list_is_the_askers_own(self):
        for one, other, middle, square, told in LINES:
            self.assert_own(line_meets, one, other, middle, square)


if __name__ == "__main__":
    unittest.main()
