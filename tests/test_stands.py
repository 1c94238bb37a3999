"""[41] Stands: cranks by their drives, pairs, likes, and what is refused step by step."""

import random
import unittest
from fractions import Fraction

from helps import RefusalCase, great_fraction, number, pair, plain, rooted, small_fraction, spot
from hingedraw.errors import NoField, Stuck
from hingedraw.machines import is_machine, stand
from hingedraw.points import circles_meet, like_at

NOUGHT, ONE, HALF = (0, 1), (1, 1), (1, 2)
FIX = ("fix", NOUGHT, NOUGHT)
EAST = ("fix", ONE, NOUGHT)
# A joint with the root of 3, and one with the root of 15, on (0, 0) and (1, 0).
THREE = ("pair", 0, 1, ONE, ONE, 0)
FIFTEEN = ("pair", 0, 1, (4, 1), (4, 1), 0)
TOP = (number(Fraction(1, 2)), number(0, Fraction(1, 2), 3))
LOW = (number(Fraction(1, 2)), number(0, Fraction(-1, 2), 3))


class CrankTest(RefusalCase):

    def test_written_out(self):
        for drive, x, y in (
            ((0, 1), 1, 0), ((1, 1), 0, 1), ((-1, 1), 0, -1), (None, -1, 0), ((1, 2), Fraction(3, 5), Fraction(4, 5)),
            ((-1, 2), Fraction(3, 5), Fraction(-4, 5)), ((2, 1), Fraction(-3, 5), Fraction(4, 5)),
            ((-3, 1), Fraction(-4, 5), Fraction(-3, 5)),
        ):
            self.assertEqual(stand((FIX, ("crank", 0, ONE)), (drive,)), [plain(0, 0), plain(x, y)])
            machine = (FIX, ("fix", (2, 1), (-1, 3)), ("crank", 1, (5, 2)))
            middle = (Fraction(2), Fraction(-1, 3))
            told = [plain(0, 0), plain(*middle), plain(middle[0] + Fraction(5, 2) * x, middle[1] + Fraction(5, 2) * y)]
            self.assertEqual(stand(machine, (drive,)), told)

    def test_drives_in_order(self):
        machine = (FIX, ("crank", 0, ONE), EAST, ("crank", 2, (2, 1)), ("crank", 0, (3, 1)))
        self.assertEqual(stand(machine, (NOUGHT, ONE, None)),
                         [plain(0, 0), plain(1, 0), plain(1, 0), plain(1, 2), plain(-3, 0)])
        self.assertEqual(stand(machine, (None, NOUGHT, ONE)),
                         [plain(0, 0), plain(-1, 0), plain(1, 0), plain(3, 0), plain(0, 3)])

    def test_no_cranks(self):
        self.assertEqual(stand((("fix", (2, 3), (-1, 5)),), ()), [plain(Fraction(2, 3), Fraction(-1, 5))])

    def test_some(self):
        chance = random.Random(100)
        for kind in (small_fraction, great_fraction):
            for turn in range(60):
                x, y, drive, length = kind(chance), kind(chance), kind(chance), abs(kind(chance)) + 1
                told = stand((("fix", pair(x), pair(y)), ("crank", 0, pair(length))), (pair(drive),))
                below = 1 + drive ** 2
                self.assertEqual(told, [plain(x, y),
                                        plain(x + length * (1 - drive ** 2) / below, y + length * 2 * drive / below)])


class PairTest(RefusalCase):

    def test_sides(self):
        for side, end in ((0, TOP), (1, LOW)):
            self.assertEqual(stand((FIX, EAST, THREE[:5] + (side,)), ()), [plain(0, 0), plain(1, 0), end])
            self.assertEqual(stand((FIX, EAST, ("pair", 1, 0, ONE, ONE, 1 - side)), ()),
                             [plain(0, 0), plain(1, 0), end])

    def test_plain_ones(self):
        far = ("fix", (9, 1), NOUGHT)
        for side, y in ((0, 4), (1, -4)):
            self.assertEqual(stand((FIX, far, ("pair", 0, 1, (25, 1), (52, 1), side)), ())[2], plain(3, y))
            self.assertEqual(stand((FIX, far, ("pair", 1, 0, (52, 1), (25, 1), side)), ())[2], plain(3, -y))

    def test_that_touch(self):
        for side in (0, 1):
            self.assertEqual(stand((FIX, ("fix", (5, 1), NOUGHT), ("pair", 0, 1, (4, 1), (9, 1), side)), ())[2],
                             plain(2, 0))
            self.assertEqual(stand((FIX, ("fix", (3, 1), NOUGHT), ("pair", 0, 1, (25, 1), (4, 1), side)), ())[2],
                             plain(5, 0))
            self.assertEqual(stand((FIX, ("fix", (3, 1), (3, 1)), ("pair", 1, 0, (8, 1), (2, 1), side)), ())[2],
                             plain(1, 1))

    def assert_stuck(self, step, machine, drives):
        self.assertTrue(is_machine(machine))
        error = self.assert_refused(Stuck, stand, machine, drives)
        self.assertEqual(error.step, step)
        self.assertIs(type(error.step), int)

    def test_that_do_not_meet(self):
        self.assert_stuck(2, (FIX, EAST, ("pair", 0, 1, (1, 5), (1, 5), 0)), ())
        self.assert_stuck(2, (FIX, EAST, ("pair", 0, 1, (9, 1), ONE, 1), FIX), ())
        self.assert_stuck(3, (FIX, EAST, FIX, ("pair", 2, 1, ONE, (9, 1), 1)), ())
        self.assert_stuck(6, (FIX, EAST) + (THREE,) * 4 + (("pair", 0, 1, ONE, (4 * 10 ** 59 + 1, 10 ** 59), 0),), ())

    def test_one_middle_twice(self):
        self.assert_stuck(2, (FIX, FIX, ("pair", 0, 1, ONE, ONE, 0)), ())
        self.assert_stuck(2, (FIX, FIX, ("pair", 1, 0, ONE, (4, 1), 1)), ())
        machine = (FIX, EAST, ("crank", 0, ONE), ("pair", 1, 2, ONE, ONE, 0))
        self.assert_stuck(3, machine, (NOUGHT,))
        self.assertEqual(len(stand(machine, ((1, 5),))), 4)

    def test_on_joints_that_are_not_both_plain(self):
        for step in (("pair", 2, 0, ONE, ONE, 0), ("pair", 0, 2, ONE, ONE, 0), ("pair", 2, 3, ONE, ONE, 0),
                     ("pair", 3, 2, (9, 1), (1, 9), 1)):
            self.assert_refused(NoField, stand, (FIX, EAST, THREE, THREE, step), ())
        # also where x alone or y alone is not plain, and where the circles would not meet
        north = ("fix", NOUGHT, ONE)
        aside = (FIX, north, ("pair", 0, 1, ONE, ONE, 0))
        self.assertEqual(stand(aside, ())[2], (number(0, Fraction(-1, 2), 3), number(Fraction(1, 2))))
        for squares in ((ONE, ONE), ((1, 99), (1, 99))):
            self.assert_refused(NoField, stand, aside + (("pair", 2, 0) + squares + (0,),), ())
            self.assert_refused(NoField, stand, aside + (("pair", 1, 2) + squares + (1,),), ())

    def test_on_pairs_that_are_plain(self):
        machine = (FIX, ("fix", (6, 1), NOUGHT), ("pair", 0, 1, (25, 1), (25, 1), 0),
                   ("pair", 2, 0, (13, 1), (18, 1), 0))
        self.assertEqual(stand(machine, ())[2:], circles_meet(plain(0, 0), (25, 1), plain(6, 0), (25, 1))[:1]
                         + circles_meet(plain(3, 4), (13, 1), plain(0, 0), (18, 1))[:1])

    def test_some(self):
        chance = random.Random(101)
        seen = {0: 0, 1: 0, 2: 0}
        for turn in range(200):
            fixes = tuple(("fix", (chance.randint(-4, 4), 1), (chance.randint(-4, 4), 1)) for part in range(2))
            step = ("pair", 1, 0, (chance.randint(1, 30), 1), (chance.randint(1, 30), 1), chance.randint(0, 1))
            if fixes[0] == fixes[1]:
                self.assert_stuck(2, fixes + (step,), ())
                continue
            middles = [plain(fix[1][0], fix[2][0]) for fix in fixes]
            found = circles_meet(middles[1], step[3], middles[0], step[4])
            seen[len(found)] += 1
            if not found:
                self.assert_stuck(2, fixes + (step,), ())
            else:
                self.assertEqual(stand(fixes + (step,), ()),
                                 middles + [found[step[5]] if len(found) == 2 else found[0]])
        self.assertGreater(min(seen[0], seen[2]), 20)


class LikeTest(RefusalCase):

    def test_plain_ones(self):
        machine = (FIX, EAST, ("like", 0, 1, HALF, (2, 1)), ("like", 1, 0, HALF, (2, 1)), ("like", 2, 3, NOUGHT, ONE))
        told = [plain(0, 0), plain(1, 0), plain(Fraction(1, 2), 2), plain(Fraction(1, 2), -2), plain(Fraction(9, 2), 2)]
        self.assertEqual(stand(machine, ()), told)

    def test_with_roots_of_one_field(self):
        machine = (FIX, EAST, THREE, THREE[:5] + (1,), ("like", 2, 3, (1, 4), NOUGHT), ("like", 0, 2, NOUGHT, (2, 1)))
        told = stand(machine, ())
        self.assertEqual(told[4], (number(Fraction(1, 2)), number(0, Fraction(1, 4), 3)))
        self.assertEqual(told[5], (number(0, -1, 3), number(1)))

    def test_joints_on_one_point(self):
        self.assertEqual(stand((EAST, EAST, ("like", 0, 1, (7, 2), (5, 1))), ())[2], plain(1, 0))

    def test_unlike_fields_are_refused(self):
        self.assertEqual(stand((FIX, EAST, FIFTEEN), ())[2], rooted((Fraction(1, 2), 0), (0, Fraction(1, 2)), 15))
        for step in (("like", 2, 3, HALF, HALF), ("like", 3, 2, NOUGHT, NOUGHT), ("like", 2, 3, ONE, NOUGHT)):
            self.assert_refused(NoField, stand, (FIX, EAST, THREE, FIFTEEN, step), ())
        # the one with its root in x alone, the other in y alone
        aside = ("pair", 0, 3, ONE, ONE, 0)
        for step in (("like", 2, 4, HALF, HALF), ("like", 4, 2, HALF, NOUGHT)):
            self.assertEqual(len(stand((FIX, EAST, FIFTEEN, ("fix", NOUGHT, ONE), aside), ())), 5)
            self.assert_refused(NoField, stand, (FIX, EAST, FIFTEEN, ("fix", NOUGHT, ONE), aside, step), ())

    def test_points_of_unlike_fields_that_no_like_asks_for(self):
        told = stand((FIX, EAST, THREE, FIFTEEN, ("like", 0, 3, ONE, NOUGHT)), ())
        self.assertEqual(told[2], TOP)
        self.assertEqual(told[3], told[4])


class OrderTest(RefusalCase):

    def test_the_first_refusal_by_the_order_of_steps(self):
        stuck = ("pair", 0, 1, (1, 5), (1, 5), 0)
        unlike = ("like", 2, 3, HALF, HALF)
        rough = ("pair", 2, 3, ONE, ONE, 0)
        ahead = (FIX, EAST, THREE, FIFTEEN)
        for first, second, error in (
            (stuck, unlike, Stuck), (stuck, rough, Stuck), (unlike, stuck, NoField), (rough, stuck, NoField),
            (stuck, stuck, Stuck),
        ):
            told = self.assert_refused(error, stand, ahead + (first, second), ())
            if error is Stuck:
                self.assertEqual(told.step, 4)
        told = self.assert_refused(Stuck, stand, ahead + (FIX, stuck, unlike), ())
        self.assertEqual(told.step, 5)

    def test_not_plain_goes_ahead_of_stuck(self):
        # one pair that is on joints which are not plain, are one point, and too far
        self.assert_refused(NoField, stand, (FIX, EAST, THREE, THREE, ("pair", 2, 3, (1, 99), (50, 1), 0)), ())


class WholeTest(RefusalCase):

    def test_a_coupler(self):
        machine = (FIX, ("fix", (4, 1), NOUGHT), ("crank", 0, ONE), ("pair", 2, 1, (9, 1), (9, 1), 0),
                   ("like", 2, 3, HALF, HALF))
        chance = random.Random(102)
        for drive in [None, Fraction(0)] + [small_fraction(chance) for turn in range(20)] + [great_fraction(chance)]:
            told = stand(machine, (None if drive is None else pair(drive),))
            end = (Fraction(-1), Fraction(0)) if drive is None else (
                (1 - drive ** 2) / (1 + drive ** 2), 2 * drive / (1 + drive ** 2))
            self.assertEqual(told[:3], [plain(0, 0), plain(4, 0), plain(*end)])
            self.assertEqual(spot(told[2]), end)
            self.assertEqual(told[3], circles_meet(told[2], (9, 1), told[1], (9, 1))[0])
            self.assertEqual(told[4], like_at(told[2], told[3], HALF, HALF))

    def test_the_list_is_the_askers_own(self):
        machine = (FIX, EAST, THREE, ("crank", 1, ONE))
        first = stand(machine, (HALF,))
        before = list(first)
        self.assertIs(type(first), list)
        second = stand(machine, (HALF,))
        self.assertIsNot(first, second)
        first.append("mine")
        first[0] = None
        self.assertEqual(second, before)
        self.assertEqual(stand(machine, (HALF,)), before)


if __name__ == "__main__":
    unittest.main()
