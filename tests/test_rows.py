"""Rows of fractions, as [31] and [32] need them: how many are independent, and what sums them up to 0."""

import random
import unittest
from fractions import Fraction
from math import gcd

from helps import great_fraction, pair, rank, small_fraction
from hingedraw.rows import rank_of, solutions


def some_rows(chance, kind):
    """Rows of which some are sums of those ahead, and columns that are 0 throughout."""
    many = chance.randint(0, 7)
    empty = [chance.random() < 0.15 for column in range(many)]
    rows = []
    for turn in range(chance.randint(0, 7)):
        row = [Fraction(0) if empty[at] or chance.random() < 0.4 else kind(chance) for at in range(many)]
        if len(rows) >= 2 and chance.random() < 0.4:
            one, other = chance.sample(rows, 2)
            row = [2 * a - b / 3 for a, b in zip(one, other)]
        rows.append(row)
    return rows, many


class RowsTest(unittest.TestCase):

    def test_written_out(self):
        self.assertEqual(solutions([], 2), [[1, 0], [0, 1]])
        self.assertEqual(solutions([], 0), [])
        self.assertEqual(solutions([[(1, 2), (1, 3)]], 2), [[-2, 3]])
        self.assertEqual(solutions([[(1, 1), (0, 1)], [(0, 1), (4, 1)]], 2), [])
        self.assertEqual(rank_of([[(1, 1), (2, 1)], [(1, 2), (1, 1)]], 2), 1)
        self.assertEqual(rank_of([[], []], 0), 0)

    def check(self, rows, many):
        told = [[pair(cell) for cell in row] for row in rows]
        found = solutions(told, many)
        self.assertEqual(rank_of(told, many), rank(rows))
        self.assertEqual(len(found), many - rank(rows))
        self.assertEqual(rank(found), len(found))
        for numbers in found:
            self.assertEqual([type(whole) for whole in numbers], [int] * many)
            self.assertEqual(gcd(*numbers), 1)
            for row in rows:
                self.assertEqual(sum(cell * whole for cell, whole in zip(row, numbers)), 0)

    def test_some(self):
        chance = random.Random(76)
        for turn in range(300):
            self.check(*some_rows(chance, small_fraction))
        for turn in range(20):
            self.check(*some_rows(chance, great_fraction))


if __name__ == "__main__":
    unittest.main()
