"""[32] Weights that balance, and papers."""

import random
import unittest
from fractions import Fraction

from helps import (
    great_fraction, great_place, looks_like_fraction, pair, plain, rank, some_linkage, some_place, spot, worth,
)
from hingedraw.linkages import freedom
from hingedraw.swings import balance, is_right, many_swings, paper_of

ONE = (1, 1)
NOUGHT = (0, 1)
UPRIGHT = (plain(0, 0), plain(1, 0), plain(1, 1), plain(0, 1))
SIDES = ((0, 1, ONE), (1, 2, ONE), (2, 3, ONE), (0, 3, ONE))
CROSSED = (4, (), SIDES + ((0, 2, ONE), (1, 3, ONE)))
HANGING = (3, (0, 2), ((0, 1, ONE), (1, 2, ONE)))
LINE = (plain(0, 0), plain(1, 0), plain(3, 0))

BALANCED = (
    (CROSSED, UPRIGHT, (1, 1, 1, 1, -1, -1)), (CROSSED, UPRIGHT, (-2, -2, -2, -2, 2, 2)),
    (HANGING, LINE, (2, 1)), (HANGING, LINE, (Fraction(-2, 3), Fraction(-1, 3))),
    # a rod between fixed joints, and one of joints on one point, alone
    ((2, (0, 1), ((0, 1, ONE),)), UPRIGHT[:2], (5,)), ((2, (), ((0, 1, ONE),)), (UPRIGHT[0],) * 2, (-3,)),
    ((3, (0, 1), ((0, 1, ONE), (1, 2, ONE))), UPRIGHT[:3], (1, 0)),
    ((3, (), ((0, 1, ONE), (0, 2, ONE), (1, 2, ONE))), LINE, (6, -2, 3)),
)

NOT_BALANCED = (
    (CROSSED, UPRIGHT, (1, 1, 1, 1, -1, 1)), (CROSSED, UPRIGHT, (1, 1, 1, 1, 1, 1)),
    (CROSSED, UPRIGHT, (1, 1, 1, 1, 0, 0)),
    (CROSSED, UPRIGHT, (0,) * 6), (HANGING, LINE, (0, 0)), (HANGING, LINE, (1, 2)), (HANGING, LINE, (2, -1)),
    (HANGING, LINE, (2, 0)),
    (HANGING, (plain(0, 0), plain(1, 1), plain(3, 0)), (2, 1)), ((2, (0, 1), ((0, 1, ONE),)), UPRIGHT[:2], (0,)),
    ((2, (0,), ((0, 1, ONE),)), UPRIGHT[:2], (1,)), ((2, (1,), ((0, 1, ONE),)), UPRIGHT[:2], (1,)),
    ((3, (), ()), UPRIGHT[:3], ()), ((3, (0, 1), ((0, 1, ONE), (1, 2, ONE))), UPRIGHT[:3], (1, 1)),
    # balanced at all joints but one
    ((3, (0,), ((0, 1, ONE), (1, 2, ONE))), LINE, (2, 1)), ((3, (2,), ((0, 1, ONE), (1, 2, ONE))), LINE, (2, 1)),
)

FREE = (
    ((3, (), ()), UPRIGHT[:3]), ((4, (0, 1), SIDES[1:]), UPRIGHT), ((4, (), SIDES), UPRIGHT),
    ((2, (0,), ((0, 1, ONE),)), UPRIGHT[:2]),
    ((4, (), SIDES + ((0, 2, ONE),)), UPRIGHT), (HANGING, UPRIGHT[:3]), ((1, (0,), ()), UPRIGHT[:1]),
)


def told_weights(numbers):
    return tuple(pair(number) for number in numbers)


def meant_balance(linkage, place, weights):
    many, fixed, rods = linkage
    sums = {joint: [Fraction(0), Fraction(0)] for joint in range(many) if joint not in fixed}
    for (one, other, square), weight in zip(rods, weights):
        for here, there in ((one, other), (other, one)):
            if here in sums:
                for at in (0, 1):
                    sums[here][at] += worth(weight) * (spot(place[there])[at] - spot(place[here])[at])
    return any(worth(weight) for weight in weights) and not any(part for both in sums.values() for part in both)


def meant_free(linkage, place):
    """Whether the rods' rows, over the joints that aren't fixed, are independent."""
    many, fixed, rods = linkage
    rows = []
    for one, other, square in rods:
        row = []
        for joint in range(many):
            if joint not in fixed:
                sign = (joint == other) - (joint == one)
                row.extend(sign * (end - start) for start, end in zip(spot(place[one]), spot(place[other])))
        rows.append(row)
    return rank(rows) == len(rods)


class BalanceTest(unittest.TestCase):

    def test_those_that_do(self):
        for linkage, place, weights in BALANCED:
            self.assertIs(balance(linkage, place, told_weights(weights)), True, (linkage, place, weights))

    def test_those_that_do_not(self):
        for linkage, place, weights in NOT_BALANCED:
            self.assertIs(balance(linkage, place, told_weights(weights)), False, (linkage, place, weights))

    def test_some(self):
        chance = random.Random(80)
        seen = {True: 0, False: 0}
        for turn in range(800):
            linkage = some_linkage(chance, 3)
            place = some_place(chance, linkage[0], 1)
            weights = tuple((chance.randint(-1, 1), 1) for rod in linkage[2])
            told = balance(linkage, place, weights)
            self.assertIs(told, meant_balance(linkage, place, weights))
            seen[told] += 1
        self.assertGreater(min(seen.values()), 40)

    def test_great_ones(self):
        chance = random.Random(81)
        for turn in range(20):
            start, way = [(great_fraction(chance), great_fraction(chance)) for part in range(2)]
            by = great_fraction(chance)
            place = (plain(*start), plain(start[0] + way[0], start[1] + way[1]),
                     plain(start[0] + by * way[0], start[1] + by * way[1]))
            self.assertIs(balance(HANGING, place, (pair(by - 1), ONE)), True)
            self.assertIs(balance(HANGING, place, (pair(by - 1 + Fraction(1, 10 ** 59)), ONE)), False)


class PaperTest(unittest.TestCase):

    def check(self, linkage, place):
        paper = paper_of(linkage, place)
        free = meant_free(linkage, place)
        self.assertIs(type(paper), tuple)
        if free:
            self.assertEqual(paper, ("free",))
        else:
            self.assertEqual((len(paper), paper[0]), (2, "bound"))
            self.assertIs(type(paper[1]), tuple)
            self.assertEqual(len(paper[1]), len(linkage[2]))
            self.assertTrue(all(looks_like_fraction(weight) for weight in paper[1]))
            self.assertTrue(meant_balance(linkage, place, paper[1]))
        self.assertIs(is_right(linkage, place, paper), True)
        self.assertIs(is_right(linkage, place, ("free",)), free)
        self.assertEqual(paper_of(linkage, place), paper)
        self.assertIs(many_swings(linkage, place) == freedom(linkage), free)
        self.assertGreaterEqual(many_swings(linkage, place), freedom(linkage))
        return free

    def test_free_places(self):
        for linkage, place in FREE:
            self.assertIs(self.check(linkage, place), True, (linkage, place))
            self.assertEqual(paper_of(linkage, place), ("free",))

    def test_bound_places(self):
        for linkage, place, weights in BALANCED:
            self.assertIs(self.check(linkage, place), False, (linkage, place))
            self.assertIs(is_right(linkage, place, ("bound", told_weights(weights))), True)

    def test_papers_that_are_not_right(self):
        for linkage, place, weights in NOT_BALANCED:
            self.assertIs(is_right(linkage, place, ("bound", told_weights(weights))), False, (linkage, place, weights))
        for linkage, place in FREE:
            for weight in (NOUGHT, ONE, (-2, 3)):
                self.assertIs(is_right(linkage, place, ("bound", (weight,) * len(linkage[2]))), False)

    def test_weights_changed_and_grown(self):
        chance = random.Random(82)
        for linkage, place, weights in BALANCED:
            for by in (Fraction(-1), Fraction(1, 7), great_fraction(chance)):
                grown = told_weights([by * weight for weight in weights])
                self.assertIs(is_right(linkage, place, ("bound", grown)), True)
            for at in range(len(weights)):
                changed = list(weights)
                changed[at] += Fraction(1, 10 ** 59)
                changed = told_weights(changed)
                self.assertIs(is_right(linkage, place, ("bound", changed)), meant_balance(linkage, place, changed))
            self.assertIs(is_right(linkage, place, ("bound", (NOUGHT,) * len(weights))), False)
        changed = told_weights((1, 1, 1, 1, -1, Fraction(1 - 10 ** 59, 10 ** 59)))
        self.assertIs(is_right(CROSSED, UPRIGHT, ("bound", changed)), False)

    def test_some(self):
        chance = random.Random(83)
        seen = []
        for turn in range(250):
            linkage = some_linkage(chance)
            seen.append(self.check(linkage, some_place(chance, linkage[0], chance.choice((1, 4, 50)))))
        self.assertGreater(min(seen.count(True), seen.count(False)), 50)

    def test_sixty_figures(self):
        chance = random.Random(84)
        for turn in range(6):
            linkage = some_linkage(chance)
            self.check(linkage, great_place(chance, linkage[0]))
        joints = [(one, other) for one in range(8) for other in range(one + 1, 8)]
        rods = tuple((one, other, ONE) for one, other in chance.sample(joints, 12))
        self.assertIs(self.check((8, (0, 1, 2), rods), great_place(chance, 8)), False)


if __name__ == "__main__":
    unittest.main()
