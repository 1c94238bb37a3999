"""[31] Speeds that keep the rods: asked of some, how many there are, and so many of them."""

import random
import unittest
from fractions import Fraction

from helps import (
    great_fraction, great_place, looks_like_fraction, pair, plain, rank, small_fraction, some_linkage, some_place,
    spot, worth,
)
from hingedraw.linkages import freedom, is_linkage
from hingedraw.swings import keep, many_swings, swings

ONE = (1, 1)
REST = ((0, 1), (0, 1))
SQUARE = (4, (0, 1), ((0, 1, ONE), (1, 2, ONE), (2, 3, ONE), (0, 3, ONE)))
UPRIGHT = (plain(0, 0), plain(1, 0), plain(1, 1), plain(0, 1))
TRIANGLE = (3, (), ((0, 1, ONE), (0, 2, ONE), (1, 2, ONE)))


def speed(x, y):
    return (pair(x), pair(y))


def meant_rows(linkage, place):
    """A row for each thing that speeds are held to, over both numbers of every joint."""
    many, fixed, rods = linkage
    rows = []
    for joint in fixed:
        for at in (0, 1):
            rows.append([int(cell == 2 * joint + at) for cell in range(2 * many)])
    for one, other, square in rods:
        row = [Fraction(0)] * (2 * many)
        for at in (0, 1):
            apart = spot(place[other])[at] - spot(place[one])[at]
            row[2 * other + at], row[2 * one + at] = apart, -apart
        rows.append(row)
    return rows


def flat(speeds):
    return [worth(number) for two in speeds for number in two]


def meant_keep(linkage, place, speeds):
    return all(sum(a * b for a, b in zip(row, flat(speeds))) == 0 for row in meant_rows(linkage, place))


class KeepTest(unittest.TestCase):

    def test_written_out(self):
        for linkage, place, speeds, told in (
            (SQUARE, UPRIGHT, (REST, REST, speed(1, 0), speed(1, 0)), True),
            (SQUARE, UPRIGHT, (REST, REST, speed(Fraction(-7, 3), 0), speed(Fraction(-7, 3), 0)), True),
            (SQUARE, UPRIGHT, (REST, REST, REST, REST), True),
            (SQUARE, UPRIGHT, (REST, REST, speed(1, 0), speed(2, 0)), False),
            (SQUARE, UPRIGHT, (REST, REST, speed(1, 1), speed(1, 1)), False),
            # fixed joints that are not at rest, though the rods are kept
            (SQUARE, UPRIGHT, (speed(1, 0),) * 4, False), (SQUARE, UPRIGHT, (speed(0, 1),) * 4, False),
            (SQUARE, UPRIGHT, (REST, speed(0, 1), speed(0, 1), REST), False),
            # no fixed joints: all alike, and all turned
            (TRIANGLE, UPRIGHT[:3], (speed(2, 5),) * 3, True),
            (TRIANGLE, UPRIGHT[:3], (speed(0, 0), speed(0, 1), speed(-1, 1)), True),
            (TRIANGLE, UPRIGHT[:3], (speed(0, 0), speed(0, 1), speed(-1, 2)), False),
            # joints that stand on one point, whatever their speeds are
            ((2, (), ((0, 1, ONE),)), (plain(3, 4), plain(3, 4)), (speed(1, 2), speed(-7, 5)), True),
            ((2, (0,), ((0, 1, ONE),)), (plain(3, 4), plain(3, 4)), (REST, speed(-7, 5)), True),
            ((2, (0,), ((0, 1, ONE),)), (plain(3, 4), plain(3, 4)), (speed(1, 0), speed(-7, 5)), False),
            # a place that does not keep the rod's square
            ((2, (0,), ((0, 1, ONE),)), (plain(0, 0), plain(3, 4)), (REST, speed(-8, 6)), True),
            ((2, (0,), ((0, 1, ONE),)), (plain(0, 0), plain(3, 4)), (REST, speed(8, 6)), False),
            # no rods
            ((2, (), ()), (plain(0, 0), plain(3, 4)), (speed(1, 2), speed(3, 4)), True),
            ((1, (0,), ()), (plain(0, 0),), (speed(0, 1),), False), ((1, (0,), ()), (plain(0, 0),), (REST,), True),
        ):
            self.assertIs(keep(linkage, place, speeds), told, (linkage, place, speeds))

    def test_some(self):
        chance = random.Random(70)
        seen = {True: 0, False: 0}
        for turn in range(600):
            linkage = some_linkage(chance, 3)
            place = some_place(chance, linkage[0], 1)
            speeds = tuple(REST if joint in linkage[1] and chance.random() < 0.9 else
                           speed(chance.randint(-1, 1), chance.randint(-1, 1)) for joint in range(linkage[0]))
            told = keep(linkage, place, speeds)
            self.assertIs(told, meant_keep(linkage, place, speeds))
            seen[told] += 1
        self.assertGreater(min(seen.values()), 50)

    def test_great_ones(self):
        chance = random.Random(71)
        for turn in range(30):
            place = great_place(chance, 2)
            (x, y), (z, w) = spot(place[0]), spot(place[1])
            by = great_fraction(chance)
            turned = (speed(-y * by, x * by), speed(-w * by, z * by))
            self.assertIs(keep((2, (), ((0, 1, ONE),)), place, turned), True)
            off = (speed(-y * by + Fraction(1, 10 ** 59), x * by), turned[1])
            self.assertIs(keep((2, (), ((0, 1, ONE),)), place, off), False)


class SwingsTest(unittest.TestCase):

    def check(self, linkage, place):
        self.assertTrue(is_linkage(linkage))
        many, found = many_swings(linkage, place), swings(linkage, place)
        meant = 2 * linkage[0] - rank(meant_rows(linkage, place))
        self.assertIs(type(many), int)
        self.assertEqual(many, meant)
        self.assertIs(type(found), list)
        self.assertEqual(len(found), meant)
        for speeds in found:
            self.assertIs(type(speeds), tuple)
            self.assertEqual(len(speeds), linkage[0])
            for two in speeds:
                self.assertIs(type(two), tuple)
                self.assertEqual(len(two), 2)
                self.assertTrue(looks_like_fraction(two[0]) and looks_like_fraction(two[1]), two)
            self.assertTrue(meant_keep(linkage, place, speeds))
            self.assertIs(keep(linkage, place, speeds), True)
        self.assertEqual(rank([flat(speeds) for speeds in found]), meant)
        self.assertGreaterEqual(many, freedom(linkage))
        return many

    def test_how_many(self):
        line = (plain(0, 0), plain(1, 0), plain(2, 0), plain(5, 0))
        for linkage, place, told in (
            (SQUARE, UPRIGHT, 1), (TRIANGLE, UPRIGHT[:3], 3),
            # no rods; all fixed; a joint alone
            ((3, (), ()), UPRIGHT[:3], 6), ((3, (1,), ()), UPRIGHT[:3], 4), ((3, (0, 1, 2), ()), UPRIGHT[:3], 0),
            ((3, (0, 1, 2), TRIANGLE[2]), UPRIGHT[:3], 0), ((1, (), ()), UPRIGHT[:1], 2),
            # all in one line: more ways than the freedom
            (TRIANGLE, line[:3], 4), ((3, (0, 1), TRIANGLE[2]), line[:3], 1), (SQUARE, line, 2),
            ((3, (0, 2), ((0, 1, ONE), (1, 2, ONE))), line[:3], 1),
            ((3, (0, 2), ((0, 1, ONE), (1, 2, ONE))), UPRIGHT[:3], 0),
            # joints on one point
            ((2, (), ((0, 1, ONE),)), (plain(3, 4), plain(3, 4)), 4),
            ((2, (0,), ((0, 1, ONE),)), (plain(3, 4), plain(3, 4)), 2),
            ((2, (0,), ((0, 1, ONE),)), (plain(3, 4), plain(3, 5)), 1), (SQUARE, (plain(1, 1),) * 4, 4),
            # a square with both ways across
            ((4, (), SQUARE[2] + ((0, 2, ONE), (1, 3, ONE))), UPRIGHT, 3),
        ):
            self.assertEqual(self.check(linkage, place), told, (linkage, place))

    def test_some(self):
        chance = random.Random(72)
        for turn in range(250):
            linkage = some_linkage(chance)
            self.check(linkage, some_place(chance, linkage[0], chance.choice((1, 4, 50))))

    def test_some_fractions(self):
        chance = random.Random(73)
        for turn in range(60):
            linkage = some_linkage(chance)
            self.check(linkage, tuple(plain(small_fraction(chance),
                                            small_fraction(chance)) for joint in range(linkage[0])))

    def test_all_in_one_line(self):
        chance = random.Random(74)
        for turn in range(60):
            linkage = some_linkage(chance)
            x, y, u, v = (small_fraction(chance) for part in range(4))
            steps = [small_fraction(chance) for joint in range(linkage[0])]
            self.check(linkage, tuple(plain(x + by * u, y + by * v) for by in steps))

    def test_sixty_figures(self):
        chance = random.Random(75)
        for turn in range(6):
            linkage = some_linkage(chance)
            self.check(linkage, great_place(chance, linkage[0]))
        joints = [(one, other) for one in range(8) for other in range(one + 1, 8)]
        rods = tuple((one, other, ONE) for one, other in chance.sample(joints, 12))
        self.check((8, (), rods), great_place(chance, 8))

    def test_the_lists_are_the_askers_own(self):
        for linkage, place in ((SQUARE, UPRIGHT), (TRIANGLE, UPRIGHT[:3]), ((3, (0, 1, 2), ()), UPRIGHT[:3])):
            first = swings(linkage, place)
            before = list(first)
            second = swings(linkage, place)
            self.assertIsNot(first, second)
            self.assertEqual(second, before)
            first.append("mine")
            self.assertEqual(second, before)
            self.assertEqual(swings(linkage, place), before)


if __name__ == "__main__":
    unittest.main()
