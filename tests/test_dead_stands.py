"""[53], [54] Four rods: dead stands, and the pieces that stands make up."""

import itertools
import random
import unittest
from fractions import Fraction

from helps import great_fraction, number, plain, rods_of, root_number, small_fraction
from hingedraw.fourrods import can_stand, dead_stands, is_stand, many_pieces, one_piece, stands_at
from hingedraw.points import side_of, square_apart
from hingedraw.roots import root_sign

TINY = Fraction(1, 10 ** 59)
DRIVES = ((0, 1), (1, 5), (-1, 5), (2, 3), (-2, 3), (7, 4), (-7, 4), (6, 1), (-6, 1), None)


def dead_by_fractions(lengths):
    a, b, c, g = [Fraction(length) for length in lengths]
    told = []
    for word, apart in (("stretched", b + c), ("folded", b - c)):
        if apart == 0:
            continue
        x = (a ** 2 + g ** 2 - apart ** 2) / (2 * g)
        height = a ** 2 - x ** 2
        along = b / apart
        end = x + along * (g - x)
        if height == 0:
            told.append((word, plain(x, 0), plain(end, 0)))
        elif height > 0:
            rest = height * (1 - along) ** 2
            for low in (False, True):
                below = low == (along < 1)
                told.append((word, (number(x), root_number(0, height, low)),
                             (number(end), root_number(0, rest, below))))
    return told


class DeadStandsTest(unittest.TestCase):

    def words(self, *lengths):
        return [told[0] for told in dead_stands(rods_of(*lengths))]

    def test_written_out(self):
        self.assertEqual(dead_stands(rods_of(3, 5, 10, 12)), [("stretched", plain(-3, 0), plain(2, 0))])
        self.assertEqual(dead_stands(rods_of(2, 4, 2, 4)), [
            ("stretched", plain(-2, 0), plain(2, 0)), ("folded", plain(2, 0), plain(6, 0)),
        ])
        self.assertEqual(dead_stands(rods_of(2, 2, 4, 4)), [
            ("stretched", plain(-2, 0), plain(0, 0)), ("folded", plain(2, 0), plain(0, 0)),
        ])
        self.assertEqual(dead_stands(rods_of(3, 2, 3, 4)), [
            ("stretched", plain(0, 3), plain(Fraction(8, 5), Fraction(9, 5))),
            ("stretched", plain(0, -3), plain(Fraction(8, 5), Fraction(-9, 5))),
            ("folded", plain(3, 0), plain(1, 0)),
        ])
        self.assertEqual(dead_stands(rods_of(3, 7, 2, 4)), [
            ("folded", plain(0, 3), plain(Fraction(28, 5), Fraction(-6, 5))),
            ("folded", plain(0, -3), plain(Fraction(28, 5), Fraction(6, 5))),
        ])
        self.assertEqual(dead_stands(rods_of(3, 2, 7, 4)), [
            ("folded", plain(0, 3), plain(Fraction(-8, 5), Fraction(21, 5))),
            ("folded", plain(0, -3), plain(Fraction(-8, 5), Fraction(-21, 5))),
        ])

    def test_how_many_of_which_word(self):
        for lengths, words in (
            ((2, 3, 4, 4), []), ((1, 1, 1, 4), []), ((1, 9, 1, 2), []),
            ((2, 1, 2, 4), ["stretched"] * 2), ((2, 6, 3, 4), ["folded"] * 2), ((2, 3, 6, 4), ["folded"] * 2),
            ((2, 1, 4, 4), ["stretched"] * 2 + ["folded"] * 2), ((2, 4, 1, 4), ["stretched"] * 2 + ["folded"] * 2),
            ((3, 5, 10, 12), ["stretched"]), ((2, 1, 1, 4), ["stretched"]), ((2, 7, 5, 4), ["folded"]),
            ((2, 8, 2, 4), ["folded"]), ((2, 4, 2, 4), ["stretched", "folded"]),
            ((3, 2, 3, 4), ["stretched"] * 2 + ["folded"]), ((2, 1, 5, 4), ["stretched"] + ["folded"] * 2),
        ):
            self.assertEqual(self.words(*lengths), words, lengths)

    def test_none_folded_where_coupler_and_rocker_are_as_long(self):
        self.assertEqual(self.words(2, 3, 3, 2), [])
        self.assertEqual(self.words(2, 2, 2, 4), ["stretched"] * 2)
        self.assertEqual(dead_stands(rods_of(2, 2, 2, 2)), [("stretched", plain(-2, 0), plain(0, 0))])
        self.assertEqual(self.words(2, Fraction(1, 3), Fraction(1, 3), 2), ["stretched"] * 2)
        self.assertEqual(self.words(2, 2, 2 - TINY, 2), ["stretched"] * 2 + ["folded"] * 2)

    def test_all_small_ones(self):
        for lengths in itertools.product((1, 2, 3, 5, Fraction(7, 2)), repeat=4):
            rods = rods_of(*lengths)
            told = dead_stands(rods)
            self.assertEqual(told, dead_by_fractions(lengths), lengths)
            ground = plain(lengths[3], 0)
            for word, end, point in told:
                self.assertIs(is_stand(rods, (end, point)), True)
                self.assertEqual(side_of(end, ground, point), 0)
                apart = lengths[1] + lengths[2] if word == "stretched" else lengths[1] - lengths[2]
                self.assertEqual(square_apart(end, ground), number(apart ** 2))

    def test_great_ones(self):
        chance = random.Random(210)
        many = 0
        for turn in range(12):
            lengths = [whole + abs(great_fraction(chance)) / 100 for whole in (2, 1, 4, 4)]
            lengths = [length.limit_denominator(10 ** 58) for length in lengths]
            rods = rods_of(*lengths)
            told = dead_stands(rods)
            self.assertEqual(told, dead_by_fractions(lengths))
            self.assertIs(all([is_stand(rods, found[1:]) for found in told]), True)
            many += len(told)
        self.assertGreater(many, 12)

    def test_the_one_above_goes_first(self):
        for lengths in ((2, 1, 4, 4), (2, 4, 1, 4), (3, 2, 3, 4), (5, 7, 1, 6)):
            told = dead_stands(rods_of(*lengths))
            for word in ("stretched", "folded"):
                signs = [root_sign(found[1][1]) for found in told if found[0] == word]
                self.assertIn(signs, ([], [0], [1, -1]))

    def test_the_list_is_the_askers_own(self):
        rods = rods_of(2, 1, 4, 4)
        told = dead_stands(rods)
        kept = list(told)
        again = dead_stands(rods)
        self.assertIsNot(again, told)
        told.clear()
        self.assertEqual(again, kept)
        self.assertEqual(dead_stands(rods), kept)


def apart_bounds(lengths):
    """Squares of A's least and greatest distance from (g, 0), and of what coupler and rocker reach."""
    a, b, c, g = lengths
    return (a - g) ** 2, (a + g) ** 2, (b - c) ** 2, (b + c) ** 2


def told_apart_by(lengths):
    """Which sign tells pieces apart: "B" where A goes all round and B never changes its side, "A" where A is kept on
    one side by what coupler and rocker reach, "" where there is one piece, None where there is none."""
    near, far, least, most = apart_bounds(lengths)
    if far < least or most < near:
        return None
    if least < near and far < most:
        return "B"
    if near < least and most < far:
        return "A"
    return ""


class ManyPiecesTest(unittest.TestCase):

    def test_written_out(self):
        for lengths, told in (
            ((1, 1, 1, 4), 0), ((4, 1, 1, 1), 0), ((1, 3, 3, 4), 2), ((3, 1, 3, 4), 2), ((3, 3, 1, 4), 2),
            ((4, 3, 3, 1), 2), ((3, 4, 3, 1), 2), ((2, 2, 2, 3), 1), ((1, 2, 3, 4), 1), ((2, 2, 2, 2), 1),
            ((1, 2, 1, 2), 1), ((1, 1, 1, 3), 1), ((3, 1, 1, 1), 1), ((1, 1, 2, 2), 1),
        ):
            self.assertEqual(many_pieces(rods_of(*lengths)), told, lengths)

    def test_where_both_sums_are_nearly_alike(self):
        for lengths in itertools.permutations((1, 3, 4, 6)):
            self.assertEqual(many_pieces(rods_of(*lengths)), 1)
            for at, length in enumerate(lengths):
                for more in (TINY, -TINY):
                    rods = rods_of(*lengths[:at], length + more, *lengths[at + 1:])
                    told = 2 if (length in (1, 6)) == (more < 0) else 1
                    self.assertEqual(many_pieces(rods), told)

    def test_without_a_stand(self):
        for lengths in itertools.permutations((2, 3, 4, 9)):
            self.assertEqual(many_pieces(rods_of(*lengths)), 1)
            lengths = [length + TINY if length == 9 else length for length in lengths]
            self.assertEqual(many_pieces(rods_of(*lengths)), 0)

    def test_by_how_far_a_can_go(self):
        for lengths in itertools.product((1, 2, 3, 4, 5, 7), repeat=4):
            told = {None: 0, "": 1, "A": 2, "B": 2}[told_apart_by(lengths)]
            for by in (1, Fraction(2, 9)):
                rods = rods_of(*[length * by for length in lengths])
                self.assertEqual(many_pieces(rods), told, lengths)
                self.assertIs(can_stand(rods), told > 0)


class OnePieceTest(unittest.TestCase):

    def stands(self, lengths):
        rods = rods_of(*lengths)
        found = [told[1:] for told in dead_stands(rods)]
        for drive in DRIVES:
            if lengths[0] != lengths[3] or drive != (0, 1):
                found.extend(stands_at(rods, drive))
        return found

    def assert_told_apart(self, lengths, by):
        rods = rods_of(*lengths)
        ground = plain(lengths[3], 0)
        found = self.stands(lengths)
        signs = []
        for end, point in found:
            signs.append({"A": root_sign(end[1]), "B": side_of(end, ground, point), "": 1}[by])
        for one, mine in zip(found, signs):
            for other, theirs in zip(found, signs):
                self.assertIs(one_piece(rods, one, other), mine == theirs, (lengths, one, other))
        return sorted(set(signs))

    def test_two_pieces_by_the_side_of_b(self):
        for lengths in (
            (1, 3, 3, 4), (1, 4, 5, 4), (3, 4, 3, 1), (4, 3, 3, 1), (5, 4, 4, 1), (Fraction(1, 2), 3, 2, 2),
        ):
            self.assertEqual(told_apart_by(lengths), "B")
            self.assertEqual(self.assert_told_apart(lengths, "B"), [-1, 1])

    def test_two_pieces_by_the_side_of_a(self):
        for lengths in ((3, 1, 3, 4), (3, 3, 1, 4), (4, 1, 5, 4), (5, 4, 1, 4), (2, Fraction(1, 2), 3, 2)):
            self.assertEqual(told_apart_by(lengths), "A")
            self.assertEqual(self.assert_told_apart(lengths, "A"), [-1, 1])

    def test_one_piece(self):
        for lengths in (
            (2, 2, 2, 3), (1, 2, 3, 4), (2, 2, 2, 2), (1, 2, 1, 2), (3, 2, 3, 4), (1, 1, 2, 2), (4, 3, 2, 1),
        ):
            self.assertEqual(told_apart_by(lengths), "")
            self.assertGreater(len(self.stands(lengths)), 1)
            self.assert_told_apart(lengths, "")

    def test_some(self):
        chance = random.Random(211)
        seen = []
        for turn in range(60):
            lengths = [chance.randint(1, 9) + abs(small_fraction(chance)) / 9 for turn in range(4)]
            by = told_apart_by(lengths)
            if by is not None:
                self.assert_told_apart(lengths, by)
                seen.append(by)
        self.assertGreater(min(seen.count(by) for by in ("A", "B", "")), 3)

    def test_stands_of_unlike_fields(self):
        rods = rods_of(1, 3, 3, 4)
        one, two = stands_at(rods, (1, 3)), stands_at(rods, (2, 7))
        self.assertNotEqual(one[0][1][0][1], two[0][1][0][1])
        self.assertIs(one_piece(rods, one[0], two[0]), True)
        self.assertIs(one_piece(rods, one[1], two[1]), True)
        self.assertIs(one_piece(rods, one[0], two[1]), False)
        self.assertIs(one_piece(rods, one[1], two[0]), False)


if __name__ == "__main__":
    unittest.main()
