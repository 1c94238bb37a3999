"""[50], [51], [52] Four rods: whether they stand, where by a drive, and which of them turn round."""

import itertools
import random
import unittest
from fractions import Fraction

from helps import RefusalCase, drive_end, great_fraction, pair, plain, rods_of, root_number, rooted, small_fraction
from hingedraw.errors import NoMeet
from hingedraw.fourrods import can_stand, is_stand, stands_at, turns
from hingedraw.points import side_of

TINY = Fraction(1, 10 ** 59)

# Lengths, the root's base, and x and y of A and of B, each (part, portion).
STANDS = (
    ((3, 5, 10, 12), 2, ((0, 0), (3, 0)), ((4, 0), (6, 0))),
    ((5, 10, 13, 14), 2, ((3, 0), (4, 0)), ((9, 0), (12, 0))),
    ((3, 5, 10, 12), 2, ((-3, 0), (0, 0)), ((2, 0), (0, 0))),
    ((Fraction(3, 7), Fraction(5, 7), Fraction(10, 7), Fraction(12, 7)), 2,
     ((0, 0), (Fraction(3, 7), 0)), ((Fraction(4, 7), 0), (Fraction(6, 7), 0))),
    ((1, 1, 1, 2), 3, ((Fraction(1, 2), 0), (0, Fraction(1, 2))), ((Fraction(3, 2), 0), (0, Fraction(1, 2)))),
    ((2, 5, 6, 7), 2, ((0, 1), (0, 1)), ((3, 1), (4, 1))),
    ((6, 3, 6, 7), 2, ((4, -1), (4, 1)), ((3, -1), (4, -1))),
    ((3, 5, 3, 3), 5, ((0, 1), (2, 0)), ((3, 1), (-2, 0))),
)


def stand_of(base, one, other):
    return (rooted(one[0], one[1], base), rooted(other[0], other[1], base))


def square_between(base, one, other):
    """(part, portion) of the square of the distance."""
    part = portion = Fraction(0)
    for mine, theirs in zip(one, other):
        grows = (Fraction(theirs[0] - mine[0]), Fraction(theirs[1] - mine[1]))
        part += grows[0] ** 2 + grows[1] ** 2 * base
        portion += 2 * grows[0] * grows[1]
    return (part, portion)


def keeps(lengths, base, one, other):
    places = (((0, 0), (0, 0)), one, other, ((lengths[3], 0), (0, 0)))
    return all(square_between(base, places[at], places[at + 1]) == (Fraction(lengths[at]) ** 2, 0) for at in range(3))


def altered(one, other):
    """The same numbers with one of them another one, or its sign turned."""
    for at, within in itertools.product(range(4), range(2)):
        for change in (lambda part: part + 1, lambda part: part - 1, lambda part: -part, lambda part: part + TINY):
            numbers = [list(coordinate) for coordinate in one + other]
            numbers[at][within] = change(numbers[at][within])
            found = [tuple(coordinate) for coordinate in numbers]
            yield (found[0], found[1]), (found[2], found[3])


def turned_over(point):
    return (point[0], (-point[1][0], -point[1][1]))


class CanStandTest(unittest.TestCase):

    def test_one_against_the_three(self):
        for at in range(4):
            for others in ((2, 3, 4), (1, 1, 1), (Fraction(1, 3), Fraction(2, 5), 7), (TINY, 1, 1)):
                for more, told in ((1, False), (TINY, False), (0, True), (-TINY, True), (-Fraction(1, 6), True)):
                    lengths = list(others)
                    lengths.insert(at, sum(others) + more)
                    self.assertIs(can_stand(rods_of(*lengths)), told, (at, others, more))

    def test_all_small_ones(self):
        for lengths in itertools.product((1, 2, 3, 5, 8), repeat=4):
            told = all(2 * length <= sum(lengths) for length in lengths)
            self.assertIs(can_stand(rods_of(*lengths)), told)
            self.assertIs(can_stand(rods_of(*[Fraction(length, 6) for length in lengths])), told)

    def test_great_ones(self):
        chance = random.Random(200)
        for turn in range(50):
            lengths = [abs(great_fraction(chance)) for turn in range(4)]
            self.assertIs(can_stand(rods_of(*lengths)), 2 * max(lengths) <= sum(lengths))


class IsStandTest(unittest.TestCase):

    def test_stands(self):
        for lengths, base, one, other in STANDS:
            self.assertTrue(keeps(lengths, base, one, other))
            self.assertIs(is_stand(rods_of(*lengths), stand_of(base, one, other)), True)

    def test_mirrored_over_the_line_of_x(self):
        for lengths, base, one, other in STANDS:
            over = stand_of(base, turned_over(one), turned_over(other))
            self.assertIs(is_stand(rods_of(*lengths), over), True)

    def test_one_number_another_one_or_its_sign_turned(self):
        for lengths, base, one, other in STANDS:
            wrong = 0
            for mine, theirs in altered(one, other):
                told = keeps(lengths, base, mine, theirs)
                self.assertIs(is_stand(rods_of(*lengths), stand_of(base, mine, theirs)), told)
                wrong += not told
            self.assertGreater(wrong, 20)

    def test_a_and_b_changed_about(self):
        for lengths, base, one, other in STANDS:
            told = keeps(lengths, base, other, one)
            self.assertIs(is_stand(rods_of(*lengths), stand_of(base, other, one)), told)
        self.assertIs(is_stand(rods_of(3, 5, 10, 12), (plain(4, 6), plain(0, 3))), False)
        self.assertIs(is_stand(rods_of(2, 2, 2, 2), (plain(2, 0), plain(0, 0))), True)
        self.assertIs(is_stand(rods_of(2, 2, 2, 2), (plain(0, 0), plain(2, 0))), False)

    def test_each_rod_is_looked_at(self):
        for lengths, base, one, other in STANDS:
            for at in range(4):
                for more in (1, TINY):
                    rods = rods_of(*lengths[:at], lengths[at] + more, *lengths[at + 1:])
                    self.assertIs(is_stand(rods, stand_of(base, one, other)), False)

    def test_points_of_unlike_fields(self):
        rods = rods_of(1, 1, 1, 2)
        three = rooted((Fraction(1, 2), 0), (0, Fraction(1, 2)), 3)
        there = rooted((Fraction(3, 2), 0), (0, Fraction(1, 2)), 3)
        self.assertIs(is_stand(rods, (three, there)), True)
        for base in (2, 5, 6, Fraction(3, 2)):
            strange = rooted((Fraction(3, 2), 0), (0, Fraction(1, 2)), base)
            self.assertIs(is_stand(rods, (three, strange)), False)
            self.assertIs(is_stand(rods, (strange, three)), False)
            self.assertIs(is_stand(rods, (rooted((Fraction(1, 2), 0), (0, Fraction(1, 2)), base), there)), False)

    def test_one_field_by_other_roots(self):
        # The root of 12 is twice that of 3.
        there = rooted((Fraction(3, 2), 0), (0, Fraction(1, 4)), 12)
        three = rooted((Fraction(1, 2), 0), (0, Fraction(1, 2)), 3)
        self.assertIs(is_stand(rods_of(1, 1, 1, 2), (three, there)), True)


def stands_by_fractions(lengths, drive):
    """All stands with A by this drive, worked out beside the line from A to (g, 0)."""
    a, b, c, g = [Fraction(length) for length in lengths]
    x, y = drive_end(a, drive)
    across, down = g - x, -y
    apart = across ** 2 + down ** 2
    along = (b ** 2 - c ** 2 + apart) / (2 * apart)
    aside = b ** 2 / apart - along ** 2
    if aside < 0:
        return []
    middle = (x + along * across, y + along * down)
    if aside == 0:
        return [(plain(x, y), plain(*middle))]
    ways = (((-down, across), 0), ((down, -across), 1))
    return [(plain(x, y), tuple(root_number(middle[at], aside * way[at] ** 2, way[at] < 0) for at in range(2)))
            for way, turn in ways]


class StandsAtTest(RefusalCase):

    def test_written_out(self):
        rods = rods_of(3, 5, 10, 12)
        found = stands_at(rods, (1, 1))
        self.assertEqual(found[0], (plain(0, 3), plain(4, 6)))
        self.assertEqual(len(found), 2)
        # Mirrored over the line of x, what was to the left is to the right.
        low = stands_at(rods, (-1, 1))
        self.assertEqual(low[1], (plain(0, -3), plain(4, -6)))
        third = Fraction(1, 3)
        root = Fraction(224, 9)
        self.assertEqual(stands_at(rods, (0, 1)), [
            (plain(3, 0), (plain(3 + third, 0)[0], root_number(0, root))),
            (plain(3, 0), (plain(3 + third, 0)[0], root_number(0, root, True))),
        ])
        self.assertEqual(stands_at(rods, None), [(plain(-3, 0), plain(2, 0))])
        self.assertEqual(stands_at(rods_of(3, 5, 9, 12), None), [])

    def test_one_on_the_line_is_told_once(self):
        self.assertEqual(stands_at(rods_of(2, 4, 2, 4), (0, 1)), [(plain(2, 0), plain(6, 0))])
        self.assertEqual(stands_at(rods_of(2, 2, 4, 4), (0, 1)), [(plain(2, 0), plain(0, 0))])
        self.assertEqual(stands_at(rods_of(3, 2, 3, 4), (1, 1)), [(plain(0, 3), plain(Fraction(8, 5), Fraction(9, 5)))])
        self.assertEqual(stands_at(rods_of(3, 2, 3, 4), (-1, 1)),
                         [(plain(0, -3), plain(Fraction(8, 5), Fraction(-9, 5)))])

    def test_none(self):
        for drive in ((0, 1), (1, 2), (-1, 3), (2, 1), None):
            self.assertEqual(stands_at(rods_of(1, 1, 1, 4), drive), [])
            self.assertEqual(stands_at(rods_of(1, 7, 1, 3), drive), [])

    def test_all_of_them_left_ones_first(self):
        chance = random.Random(201)
        counts = [0, 0, 0]
        for turn in range(400):
            lengths = [chance.randint(1, 5) for turn in range(4)]
            if turn % 2:
                lengths = [Fraction(length, chance.randint(1, 3)) for length in lengths]
            drive = chance.choice((None, Fraction(0), small_fraction(chance), small_fraction(chance)))
            if lengths[0] == lengths[3] and drive == 0:
                continue
            rods = rods_of(*lengths)
            told = stands_at(rods, None if drive is None else pair(drive))
            self.assertEqual(told, stands_by_fractions(lengths, drive))
            ground = plain(lengths[3], 0)
            sides = [side_of(stand[0], ground, stand[1]) for stand in told]
            self.assertIn(sides, ([], [0], [1, -1]))
            for stand in told:
                self.assertIs(is_stand(rods, stand), True)
            counts[len(told)] += 1
        self.assertGreater(min(counts), 5, counts)

    def test_great_ones(self):
        chance = random.Random(202)
        for turn in range(6):
            lengths = [whole + abs(great_fraction(chance)) / 10 ** 3 for whole in (1, 4, 4, 4)]
            rods = rods_of(*[length.limit_denominator(10 ** 59) for length in lengths])
            for drive in (pair(great_fraction(chance)), None):
                told = stands_at(rods, drive)
                self.assertIs(all([is_stand(rods, stand) for stand in told]), True)

    def test_a_at_the_far_end(self):
        for lengths in ((2, 1, 1, 2), (2, 3, 3, 2), (2, 1, 3, 2), (Fraction(1, 3), 1, 9, Fraction(1, 3))):
            self.assert_refused(NoMeet, stands_at, rods_of(*lengths), (0, 1))
            for drive in ((1, 1), (-1, 5), None):
                self.assertEqual(len(stands_at(rods_of(*lengths), drive)),
                                 len(stands_by_fractions(lengths, None if drive is None else Fraction(*drive))))

    def test_the_list_is_the_askers_own(self):
        for drive in ((1, 3), None):
            rods = rods_of(3, 5, 10, 12)
            told = stands_at(rods, drive)
            kept = list(told)
            again = stands_at(rods, drive)
            self.assertIsNot(again, told)
            told.clear()
            self.assertEqual(again, kept)
            self.assertEqual(stands_at(rods, drive), kept)


def crank_turns(a, b, c, g):
    """Whether there is a stand at the least and at the greatest distance of A from (g, 0): so at all between."""
    for drive in (0, None):
        if drive == 0 and a == g:
            if b != c:
                return False
        elif not stands_by_fractions((a, b, c, g), drive):
            return False
    return True


class TurnsTest(unittest.TestCase):

    def test_written_out(self):
        for lengths, crank, rocker, coupler in (
            ((1, 3, 3, 4), True, False, False), ((3, 3, 1, 4), False, True, False), ((3, 1, 3, 4), False, False, True),
            ((3, 4, 3, 1), True, True, True), ((2, 2, 2, 3), False, False, False), ((1, 1, 1, 4), False, False, False),
            ((2, 2, 2, 2), True, True, True), ((1, 2, 1, 2), True, True, False), ((1, 2, 2, 3), True, False, False),
            ((1, 3, 2, 2), True, False, False), ((1, 2, 3, 2), True, False, False),
            ((2, 1, 2, 3), False, False, True), ((2, 2, 1, 3), False, True, False), ((2, 3, 2, 1), True, True, True),
        ):
            told = [turns(rods_of(*lengths), word) for word in ("crank", "rocker", "coupler")]
            self.assertEqual(told, [crank, rocker, coupler], lengths)

    def test_just_as_great(self):
        for lengths, word in (
            ((1, 2, 3, 4), "crank"), ((1, 3, 2, 4), "crank"), ((3, 2, 1, 4), "rocker"), ((2, 1, 3, 4), "coupler"),
            ((4, 3, 2, 1), "crank"), ((4, 3, 2, 1), "rocker"), ((4, 3, 2, 1), "coupler"),
        ):
            self.assertIs(turns(rods_of(*lengths), word), True, (lengths, word))
        # A hair more or less, and one of the two bounds is broken.
        for lengths, word in (
            ((1, 2, 3, 4 + TINY), "crank"), ((1 + TINY, 2, 3, 4), "crank"), ((1, 2 - TINY, 3, 4), "crank"),
            ((1, 3, 2 - TINY, 4), "crank"), ((2, 3, 4 + TINY, 3), "crank"), ((2 + TINY, 3, 4, 3), "crank"),
            ((3, 2, 1 + TINY, 4), "rocker"), ((2, 1 + TINY, 3, 4), "coupler"), ((4, 3 - TINY, 2, 1), "rocker"),
            ((4 + TINY, 3, 2, 1), "coupler"),
        ):
            self.assertIs(turns(rods_of(*lengths), word), False, (lengths, word))

    def test_by_stands_at_both_ends_of_the_way(self):
        # The ways of the three rods sum up to that of the ground in whatever order, so each may stand as the crank.
        for lengths in itertools.product((1, 2, 3, 4, 6), repeat=4):
            a, b, c, g = lengths
            for by in (1, Fraction(1, 7)):
                rods = rods_of(*[length * by for length in lengths])
                self.assertIs(turns(rods, "crank"), crank_turns(a, b, c, g), lengths)
                self.assertIs(turns(rods, "rocker"), crank_turns(c, a, b, g), lengths)
                self.assertIs(turns(rods, "coupler"), crank_turns(b, a, c, g), lengths)

    def test_a_crank_that_turns_has_stands_by_all_drives(self):
        chance = random.Random(203)
        for lengths in itertools.product((1, 2, 3, 4), repeat=4):
            if turns(rods_of(*lengths), "crank"):
                drive = small_fraction(chance) or Fraction(1, 3)
                self.assertNotEqual(stands_at(rods_of(*lengths), pair(drive)), [], (lengths, drive))


if __name__ == "__main__":
    unittest.main()
