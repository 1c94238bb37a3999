"""[30] Linkages: what is one, the first rod that is wrong, freedom."""

import random
import unittest
from fractions import Fraction

from helps import (
    RefusalCase, anything, great_fraction, great_place, looks_like_fraction, looks_whole, nested, number, pair, plain,
    rooted,
    some_linkage, some_place, spot, variants,
)
from hingedraw.errors import NoField
from hingedraw.linkages import first_wrong, freedom, is_linkage

ONE = (1, 1)
SQUARE = (4, (0, 1), ((0, 1, ONE), (1, 2, ONE), (2, 3, ONE), (0, 3, ONE)))
FULL = (8, (0, 3, 7), tuple((one, one + apart, pair(Fraction(one + 1, 7 * apart + 2))) for apart in (1,
    3) for one in range(5))
        + ((0, 7, (10 ** 59 + 1, 10 ** 59)), (6, 7, (1, 2))))

RIGHT = (
    (1, (), ()), (1, (0,), ()), (8, (), ()), (8, tuple(range(8)), ()), (2, (), ((0, 1, (1, 3)),)),
    (2, (0, 1), ((0, 1, (1, 3)),)),
    SQUARE, FULL, (3, (2,), ((1, 2, (5, 2)), (0, 2, (1, 1)), (0, 1, (7, 3)))),
)

WRONG = (
    # how many joints
    (0, (), ()), (9, (), ()), (-1, (), ()), (True, (), ()), (False, (), ()), (None, (), ()), ("1", (), ()),
    ((1, 1), (), ()),
    (10 ** 60, (), ()),
    # fixed: falling, twice, beyond, a list, truths, texts
    (3, (1, 0), ()), (3, (1, 1), ()), (3, (0, 2, 1), ()), (3, (0, 3), ()), (3, (-1, 0), ()), (3, [0, 1], ()),
    (3, {0: 1}, ()),
    (3, (False, 1), ()), (3, (0, True), ()), (3, ("0",), ()), (3, (None,), ()), (3, ((0, 1),), ()), (3, None, ()),
    (3, "", ()),
    (3, 0, ()), (3, "012", ()),
    # rods: of one joint, falling, beyond, below, truths
    (3, (), ((1, 1, ONE),)), (3, (), ((1, 0, ONE),)), (3, (), ((0, 3, ONE),)), (3, (), ((-1, 0, ONE),)),
    (3, (), ((False, 1, ONE),)),
    (3, (), ((0, True, ONE),)), (3, (), ((None, 1, ONE),)), (3, (), (("0", 1, ONE),)), (3, (), (((0, 1), 2, ONE),)),
    # squares: 0, below, not in lowest terms, of two things, truths, whole numbers, root numbers
    (3, (), ((0, 1, (0, 1)),)), (3, (), ((0, 1, (-1, 1)),)), (3, (), ((0, 1, (2, 4)),)), (3, (), ((0, 1, (1, 0)),)),
    (3, (), ((0, 1, (1, -2)),)), (3, (), ((0, 1, (-1, -2)),)), (3, (), ((0, 1, (True, 1)),)),
    (3, (), ((0, 1, (1, True)),)),
    (3, (), ((0, 1, 1),)), (3, (), ((0, 1, (1,)),)), (3, (), ((0, 1, (1, 1, 1)),)), (3, (), ((0, 1, [1, 1]),)),
    (3, (), ((0, 1, ((1, 1), (0, 1))),)), (3, (), ((0, 1, "11"),)), (3, (), ((0, 1, None),)),
    # a rod of two things, of four, a list
    (3, (), ((0, 1),)), (3, (), ((0, 1, ONE, ONE),)), (3, (), ([0, 1, ONE],)), (3, (), ((),)), (3, (), (0,)),
    (3, (), (None,)),
    # rods: a list, a rod itself, other kinds
    (3, (), [(0, 1, ONE)]), (3, (), (0, 1, ONE)), (3, (), []), (3, (), {}), (3, (), None), (3, (), ""), (3, (), "rod"),
    # the same two joints twice, also with another square
    (3, (), ((0, 1, ONE), (0, 1, ONE))), (3, (), ((0, 1, ONE), (0, 1, (2, 1)))),
    (3, (), ((0, 1, ONE), (1, 2, ONE), (0, 1, (3, 2)))),
    # thirteen rods
    (8, (0, 3, 7), FULL[2] + ((5, 7, ONE),)),
    # a part fewer or more, a list, another order
    (), (3,), (3, ()), (3, (), (), ()), [3, (), ()], ((), 3, ()), {0: 3, 1: (), 2: ()}, "310", None, True, 0, "", [],
    {},
)


def looks_like_linkage(thing):
    if type(thing) is not tuple or len(thing) != 3:
        return False
    many, fixed, rods = thing
    if not looks_whole(many) or many not in range(1, 9):
        return False
    joints = range(many)
    if type(fixed) is not tuple or not all(looks_whole(joint) and joint in joints for joint in fixed):
        return False
    if list(fixed) != sorted(set(fixed)):
        return False
    if type(rods) is not tuple or len(rods) > 12:
        return False
    seen = set()
    for rod in rods:
        if type(rod) is not tuple or len(rod) != 3 or not all(looks_whole(end) and end in joints for end in rod[:2]):
            return False
        if rod[0] >= rod[1] or rod[:2] in seen or not looks_like_fraction(rod[2]) or rod[2][0] <= 0:
            return False
        seen.add(rod[:2])
    return True


class IsLinkageTest(unittest.TestCase):

    def test_right_ones(self):
        for thing in RIGHT:
            self.assertIs(is_linkage(thing), True, thing)

    def test_wrong_ones(self):
        for thing in WRONG:
            self.assertIs(is_linkage(thing), False, thing)

    def test_one_place_changed(self):
        seen = {True: 0, False: 0}
        for right in RIGHT:
            for thing in variants(right):
                told = is_linkage(thing)
                self.assertIs(told, looks_like_linkage(thing), thing)
                seen[told] += 1
        self.assertGreater(min(seen.values()), 50)

    def test_some(self):
        chance = random.Random(60)
        for turn in range(300):
            linkage = some_linkage(chance)
            self.assertIs(is_linkage(linkage), True, linkage)

    def test_anything(self):
        chance = random.Random(61)
        for turn in range(5000):
            thing = anything(chance, chance.randrange(1, 6))
            self.assertIs(is_linkage(thing), looks_like_linkage(thing), thing)
            for within in ((3, thing, ()), (3, (), thing), (3, (), (thing,)), (thing, (), ()),
                           (3, (), ((0, 1, thing),))):
                self.assertIs(is_linkage(within), looks_like_linkage(within), within)

    def test_twenty_deep(self):
        for within in (0, True, None, "a", (1, 1)):
            for deep in range(1, 21):
                thing = nested(deep, within)
                for built in (thing, (thing, (), ()), (3, (thing,), ()), (3, (), (thing,)), (3, (), ((0, 1, thing),))):
                    self.assertIs(is_linkage(built), looks_like_linkage(built))


class FirstWrongTest(RefusalCase):

    def test_written_out(self):
        right = (plain(0, 0), plain(1, 0), plain(1, 1), plain(0, 1))
        for place, told in (
            (right, None), ((plain(0, 0), plain(1, 0), plain(1, 1), plain(0, 2)), 2),
            ((plain(0, 0), plain(1, 0), plain(1, 2), plain(0, 1)), 1),
            ((plain(0, 0), plain(2, 0), plain(2, 1), plain(1, 1)), 0),
            ((plain(0, 0), plain(1, 0), plain(0, 0), plain(1, 0)), None),
            ((plain(0, 0), plain(1, 0), plain(1, 1), plain(1, 0)), None),
            ((plain(0, 0), plain(0, 0), plain(0, 1), plain(0, 1)), 0),
            ((plain(0, 0), plain(1, 0), plain(1, 1), plain(2, 1)), 3),
        ):
            self.assertEqual(first_wrong(SQUARE, place), told)

    def test_with_roots(self):
        half = Fraction(1, 2)
        triangle = (3, (), ((0, 1, ONE), (0, 2, ONE), (1, 2, ONE)))
        top = (number(half), number(0, half, 3))
        self.assertIsNone(first_wrong(triangle, (plain(0, 0), plain(1, 0), top)))
        self.assertEqual(first_wrong(triangle, (plain(0, 0), plain(2, 0), top)), 0)
        self.assertEqual(first_wrong(triangle, (plain(0, 0), plain(1, 0), (number(half), number(half, half, 3)))), 1)
        self.assertEqual(first_wrong(triangle, (plain(0, 0), plain(-1, 0), top)), 2)
        # A square that has the right part and a root besides, and one whose root is right but not plain.
        rod = (2, (), ((0, 1, (3, 1)),))
        self.assertEqual(first_wrong(rod, (plain(0, 0), rooted((1, 1), (0, 0)))), 0)
        self.assertIsNone(first_wrong(rod, (plain(0, 0), rooted((0, 1), (1, 0)))))
        self.assertIsNone(first_wrong(rod, (rooted((0, 1), (1, 0)), rooted((0, 2), (0, 0)))))

    def test_no_rods(self):
        self.assertIsNone(first_wrong((2, (), ()), (plain(0, 0), plain(0, 0))))
        self.assertIsNone(first_wrong((1, (0,), ()), (rooted((0, 1), (3, 2)),)))

    def test_some(self):
        chance = random.Random(62)
        seen = set()
        for turn in range(300):
            many, fixed, rods = some_linkage(chance)
            place = chance.choice((some_place, great_place))(chance, many)
            spots = [spot(point) for point in place]
            kept = []
            for one, other, square in rods:
                apart = sum((start - end) ** 2 for start, end in zip(spots[one], spots[other]))
                wrong = apart == 0 or chance.random() < 0.1
                kept.append(((one, other, pair(apart + 1 if wrong else apart)), wrong))
            told = first_wrong((many, fixed, tuple(rod for rod, wrong in kept)), place)
            meant = next((number for number, (rod, wrong) in enumerate(kept) if wrong), None)
            self.assertEqual(told, meant)
            self.assertIs(type(told), type(meant))
            seen.add(told)
        self.assertTrue({None, 0, 1, 2} <= seen)

    def test_unlike_fields_are_refused(self):
        two, three = rooted((0, 1), (0, 0), 2), rooted((0, 0), (0, 1), 3)
        rods = ((0, 1, (2, 1)),)
        self.assert_refused(NoField, first_wrong, (3, (), rods), (two, three, plain(0, 0)))
        self.assert_refused(NoField, first_wrong, (3, (), rods), (two, plain(0, 0), three))
        self.assert_refused(NoField, first_wrong, (3, (), rods), (plain(0, 0), two, three))
        # Also where no rod joins them, where the first rod is wrong, and where there are no rods.
        self.assert_refused(NoField, first_wrong, (4, (), rods), (plain(0, 0), plain(9, 0), two, three))
        self.assert_refused(NoField, first_wrong, (4, (), ((2, 3, (2, 1)),)), (two, three, plain(0, 0), plain(1, 1)))
        self.assert_refused(NoField, first_wrong, (2, (), ()), (two, three))
        self.assert_refused(NoField, first_wrong, (2, (0, 1), ()), (three, two))

    def test_great_ones(self):
        chance = random.Random(63)
        for turn in range(10):
            x, y, portion = great_fraction(chance), great_fraction(chance), great_fraction(chance)
            place = (plain(x, y), rooted((x, portion), (y, 2 * portion)), rooted((x, -portion), (y, 2 * portion)))
            rods = ((0, 1, pair(10 * portion ** 2)), (0, 2, pair(10 * portion ** 2)), (1, 2, pair(8 * portion ** 2)))
            self.assertIsNone(first_wrong((3, (0,), rods), place))
            self.assertEqual(first_wrong((3, (0,),
                                          rods[:2] + ((1, 2, pair(8 * portion ** 2 + Fraction(1, 10 ** 59))),)),
                                          place), 2)


class FreedomTest(unittest.TestCase):

    def test_written_out(self):
        for linkage, told in (
            ((1, (), ()), 2), ((1, (0,), ()), 0), ((8, (), ()), 16), (SQUARE, 0), (FULL, -2),
            ((2, (0, 1), ((0, 1, ONE),)), -1),
            ((3, (0,), ((0, 1, ONE), (1, 2, ONE))), 2), ((2, (), ((0, 1, ONE),)), 3),
        ):
            self.assertEqual(freedom(linkage), told)

    def test_some(self):
        chance = random.Random(64)
        for turn in range(100):
            linkage = some_linkage(chance)
            free = [joint for joint in range(linkage[0]) if joint not in linkage[1]]
            self.assertEqual(freedom(linkage), len(free) + len(free) - len(linkage[2]))
            self.assertIs(type(freedom(linkage)), int)


if __name__ == "__main__":
    unittest.main()
