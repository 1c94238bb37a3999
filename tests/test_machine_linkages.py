"""[42] A machine's linkage: its rods in order, what is refused, and stands as its places."""

import random
import unittest
from fractions import Fraction

from helps import RefusalCase, great_fraction, pair, small_fraction
from hingedraw.errors import NoField, NoMachine, Stuck
from hingedraw.linkages import first_wrong, is_linkage
from hingedraw.machines import is_machine, linkage_of, stand

NOUGHT, ONE, HALF = (0, 1), (1, 1), (1, 2)
FIX = ("fix", NOUGHT, NOUGHT)
FAR = ("fix", (3, 1), (4, 1))
COUPLER = (FIX, FAR, ("crank", 0, (3, 2)), ("pair", 2, 1, (9, 1), (19, 2), 0), ("like", 2, 3, HALF, (1, 4)))

WRITTEN = (
    ((FIX,), (1, (0,), ())),
    ((FIX, FAR), (2, (0, 1), ())),
    ((FIX, ("crank", 0, (3, 2)), FAR), (3, (0, 2), ((0, 1, (9, 4)),))),
    ((FIX, FAR, ("crank", 1, (3, 2)), ("crank", 0, HALF)), (4, (0, 1), ((1, 2, (9, 4)), (0, 3, (1, 4))))),
    ((FIX, FAR, ("pair", 0, 1, (2, 1), (3, 1), 0)), (3, (0, 1), ((0, 2, (2, 1)), (1, 2, (3, 1))))),
    ((FIX, FAR, ("pair", 1, 0, (2, 1), (3, 1), 1)), (3, (0, 1), ((1, 2, (2, 1)), (0, 2, (3, 1))))),
    # likes on two fixed joints, also the later one named first
    ((FIX, FAR, ("like", 0, 1, HALF, NOUGHT)), (3, (0, 1), ((0, 2, (25, 4)), (1, 2, (25, 4))))),
    ((FIX, FAR, ("like", 0, 1, (2, 1), (1, 5))), (3, (0, 1), ((0, 2, (101, 1)), (1, 2, (26, 1))))),
    ((FIX, FAR, ("like", 1, 0, (2, 1), (1, 5))), (3, (0, 1), ((1, 2, (101, 1)), (0, 2, (26, 1))))),
    ((FIX, FAR, ("like", 0, 1, (-1, 1), (-1, 5))), (3, (0, 1), ((0, 2, (26, 1)), (1, 2, (101, 1))))),
    ((FIX, FAR, ("like", 0, 1, NOUGHT, ONE)), (3, (0, 1), ((0, 2, (25, 1)), (1, 2, (50, 1))))),
    ((FIX, FAR, ("like", 0, 1, ONE, (-1, 1))), (3, (0, 1), ((0, 2, (50, 1)), (1, 2, (25, 1))))),
    # on a rod of a crank, of a pair's first and second joint
    ((FIX, ("crank", 0, (2, 1)), ("like", 0, 1, ONE, HALF)),
     (3, (0,), ((0, 1, (4, 1)), (0, 2, (5, 1)), (1, 2, (1, 1))))),
    ((FIX, ("crank", 0, (2, 1)), ("like", 1, 0, ONE, HALF)),
     (3, (0,), ((0, 1, (4, 1)), (1, 2, (5, 1)), (0, 2, (1, 1))))),
    (COUPLER, (5, (0, 1), ((0, 2, (9, 4)), (2, 3, (9, 1)), (1, 3, (19, 2)), (2, 4, (45, 16)), (3, 4, (45, 16))))),
    (COUPLER[:4] + (("like", 3, 1, (3, 1), NOUGHT),),
     (5, (0, 1), ((0, 2, (9, 4)), (2, 3, (9, 1)), (1, 3, (19, 2)), (3, 4, (171, 2)), (1, 4, (38, 1))))),
    # on a rod of a like, two steps on
    (COUPLER[:3] + (("like", 0, 2, (2, 1), NOUGHT), ("like", 3, 2, (2, 1), NOUGHT)),
     (5, (0, 1), ((0, 2, (9, 4)), (0, 3, (9, 1)), (2, 3, (9, 4)), (3, 4, (9, 1)), (2, 4, (9, 4))))),
)

REFUSED = (
    # the way between the two may change
    (FIX, FAR, ("crank", 0, ONE), ("like", 1, 2, HALF, HALF)),
    (FIX, FAR, ("crank", 0, ONE), ("like", 2, 1, HALF, HALF)),
    (FIX, ("crank", 0, ONE), ("crank", 0, ONE), ("like", 1, 2, HALF, HALF)),
    COUPLER[:4] + (("like", 0, 3, HALF, HALF),),
    COUPLER + (("like", 4, 0, HALF, HALF),), COUPLER + (("like", 1, 4, HALF, HALF),),
    # two pairs on the same joints have no rod between them, nor a like's joint and another one
    (FIX, FAR, ("pair", 0, 1, (9, 1), (9, 1), 0), ("pair", 0, 1, (9, 1), (9, 1), 1), ("like", 2, 3, HALF, HALF)),
    (FIX, FAR, ("like", 0, 1, HALF, ONE), ("like", 0, 1, HALF, HALF), ("like", 2, 3, HALF, HALF)),
    # a square that would be 0
    (FIX, FAR, ("like", 0, 1, NOUGHT, NOUGHT)), (FIX, FAR, ("like", 0, 1, ONE, NOUGHT)),
    (FIX, FIX, ("like", 0, 1, HALF, HALF)),
    (FIX, FIX, ("like", 1, 0, (5, 1), (-7, 2))), COUPLER[:4] + (("like", 2, 3, NOUGHT, NOUGHT),),
    COUPLER[:4] + (("like", 3, 1, ONE, NOUGHT),),
    # with steps behind it, and with two likes of which the second is wrong
    (FIX, FIX, ("like", 0, 1, HALF, HALF), FAR), (FIX, FAR, ("like", 0, 1, HALF, HALF), ("like", 0, 1, ONE, NOUGHT)),
)


def some_machine(chance, kind):
    """A machine whose likes stand on two fixed joints or on joints with a rod, so that its linkage is told."""
    steps = [("fix", pair(kind(chance)), pair(kind(chance))), ("fix", pair(kind(chance)), pair(kind(chance)))]
    steady = [(0, 1)] if steps[0] != steps[1] else []
    for number in range(2, chance.randint(3, 7)):
        word = chance.choice(("fix", "crank", "crank", "pair", "pair", "like", "like"))
        if word == "like" and steady:
            one, other = chance.sample(chance.choice(steady), 2)
            along, left = kind(chance), kind(chance)
            if left == 0 and along in (0, 1):
                left = Fraction(1)
            steps.append(("like", one, other, pair(along), pair(left)))
        elif word == "pair":
            one, other = chance.sample(range(number), 2)
            squares = [pair(1 + abs(kind(chance)) * chance.randint(1, 20)) for part in range(2)]
            steps.append(("pair", one, other, squares[0], squares[1], chance.randint(0, 1)))
        elif word == "crank":
            one = other = chance.choice([at for at, step in enumerate(steps) if step[0] == "fix"])
            steps.append(("crank", one, pair(abs(kind(chance)) + 1)))
        else:
            steps.append(("fix", pair(kind(chance)), pair(kind(chance))))
            continue
        steady.extend({(one, number), (other, number)})
    return tuple(steps)


def some_drives(chance, machine, kind):
    cranks = [step for step in machine if step[0] == "crank"]
    return tuple(None if chance.random() < 0.1 else pair(kind(chance)) for step in cranks)


class LinkageOfTest(RefusalCase):

    def test_written_out(self):
        for machine, told in WRITTEN:
            self.assertTrue(is_machine(machine))
            self.assertEqual(linkage_of(machine), told)
            self.assertIs(is_linkage(linkage_of(machine)), True)

    def test_refused(self):
        for machine in REFUSED:
            self.assertTrue(is_machine(machine), machine)
            self.assert_refused(NoMachine, linkage_of, machine)

    def test_machines_that_never_stand(self):
        machine = (FIX, FAR, ("pair", 0, 1, ONE, ONE, 0), ("like", 0, 2, HALF, HALF))
        self.assert_refused(Stuck, stand, machine, ())
        self.assertEqual(linkage_of(machine), (4, (0, 1), ((0, 2, ONE), (1, 2, ONE), (0, 3, HALF), (2, 3, HALF))))

    def test_the_same_again(self):
        for machine, told in WRITTEN:
            first = linkage_of(machine)
            for other in REFUSED:
                self.assert_refused(NoMachine, linkage_of, other)
            self.assertEqual(linkage_of(machine), first)


class StandsAreItsPlacesTest(RefusalCase):

    def check(self, machine, drives):
        """Whether the stand was told, and no rod is wrong at it."""
        self.assertTrue(is_machine(machine), machine)
        linkage = linkage_of(machine)
        self.assertIs(is_linkage(linkage), True)
        self.assertEqual(linkage[0], len(machine))
        self.assertEqual(linkage[1], tuple(at for at, step in enumerate(machine) if step[0] == "fix"))
        try:
            points = stand(machine, drives)
        except (Stuck, NoField):
            return False
        try:
            self.assertIsNone(first_wrong(linkage, tuple(points)))
        except NoField:
            # Rods one by one, as no rod's own two points are of unlike fields.
            for one, other, square in linkage[2]:
                self.assertIsNone(first_wrong((2, (), ((0, 1, square),)), (points[one], points[other])))
        return True

    def test_written_out(self):
        for machine, told in WRITTEN:
            many = len([step for step in machine if step[0] == "crank"])
            for drive in (None, NOUGHT, ONE, (-1, 1), HALF, (-7, 3)):
                self.check(machine, (drive,) * many)

    def test_a_coupler(self):
        chance = random.Random(110)
        for kind in (small_fraction, great_fraction):
            for turn in range(10):
                machine = (FIX, ("fix", (4, 1), NOUGHT), ("crank", 0, ONE),
                           ("pair", 2, 1, (9, 1), (9, 1), chance.randint(0, 1)),
                           ("like", 2, 3, pair(kind(chance)), (1, 7)), ("like", 4, 3, pair(kind(chance)), (-1, 7)))
                self.assertTrue(self.check(machine, (pair(kind(chance)),)))

    def test_some(self):
        chance = random.Random(111)
        seen = {True: 0, False: 0}
        for turn in range(400):
            machine = some_machine(chance, small_fraction)
            seen[self.check(machine, some_drives(chance, machine, small_fraction))] += 1
        self.assertGreater(seen[True], 100)

    def test_great_ones(self):
        chance = random.Random(112)
        for turn in range(15):
            machine = some_machine(chance, great_fraction)
            self.check(machine, some_drives(chance, machine, great_fraction))


if __name__ == "__main__":
    unittest.main()
