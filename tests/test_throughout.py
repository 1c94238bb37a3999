"""[2] What holds throughout, and the interface: names and arguments as they stand."""

import copy
import importlib
import inspect
import random
import unittest

from helps import great_fraction, looks_like_fraction, looks_like_number, number, pair
from hingedraw.errors import NoField, NoQuotient, RodError
from hingedraw.fractions import minus, over, plus, ratio, root_in, times, whole_root
from hingedraw.roots import (
    is_number, made, one_field, root_less, root_minus, root_of, root_over, root_plus, root_sign, root_times,
)

INTERFACE = {
    "hingedraw.fractions": {
        "ratio": "top bottom", "over": "one other", "plus": "one other", "minus": "one other", "times": "one other",
        "whole_root": "number", "root_in": "one",
    },
    "hingedraw.roots": {
        "is_number": "thing", "made": "part under", "root_of": "fraction", "one_field": "one other",
        "root_plus": "one other", "root_minus": "one other", "root_times": "one other", "root_over": "one other",
        "root_less": "one other", "root_sign": "one",
    },
    "hingedraw.errors": {"Stuck": "step"},
}


class InterfaceTest(unittest.TestCase):

    def test_names_and_arguments(self):
        for module, names in INTERFACE.items():
            for name, words in names.items():
                asked = getattr(importlib.import_module(module), name)
                self.assertEqual(" ".join(inspect.signature(asked).parameters), words, (module, name))


class WholeNumbersTest(unittest.TestCase):

    def test_truths_are_no_whole_numbers(self):
        right = [[1, 1], [3, 1]]
        self.assertIs(is_number(((1, 1), (3, 1))), True)
        for at in (0, 1):
            for within in (0, 1):
                for truth in (True, False):
                    wrong = copy.deepcopy(right)
                    wrong[at][within] = truth
                    self.assertIs(is_number((tuple(wrong[0]), tuple(wrong[1]))), False)


class HandedInTest(unittest.TestCase):

    def test_what_is_handed_in_is_not_changed(self):
        for thing in (
            [(1, 1), (2, 1)], ([1, 1], [2, 1]), {"part": (1, 1), "under": [2, 1]}, ((1, [1]), (2, {1: 1})), [[], {}, [[]]],
        ):
            before = copy.deepcopy(thing)
            is_number(thing)
            self.assertEqual(thing, before)

    def test_what_is_handed_in_is_not_kept(self):
        thing = [(1, 1), (2, 1)]
        self.assertIs(is_number(thing), False)
        thing.append(3)
        self.assertIs(is_number(tuple(thing)), False)
        thing.pop()
        self.assertIs(is_number(tuple(thing)), True)
        self.assertIs(is_number(thing), False)

    def test_the_same_answer_again(self):
        chance = random.Random(30)
        one = number(great_fraction(chance), great_fraction(chance), 5)
        other = number(great_fraction(chance), great_fraction(chance), 5)
        strange = number(great_fraction(chance), great_fraction(chance), 3)
        for asked in (root_plus, root_minus, root_times, root_over, root_less, one_field):
            first = asked(one, other)
            if asked is not one_field:
                self.assertRaises(NoField, asked, one, strange)
            self.assertEqual(asked(one, other), first)


class WhateverItsSizeTest(unittest.TestCase):

    def test_fractions(self):
        chance = random.Random(31)
        one = pair(great_fraction(chance))
        other = pair(great_fraction(chance))
        for turn in range(6):
            total = plus(times(one, one), times(other, other))
            self.assertTrue(looks_like_fraction(total))
            self.assertEqual(minus(total, times(other, other)), times(one, one))
            self.assertEqual(over(times(one, other), other), one)
            self.assertEqual(root_in(times(total, total)), total)
            self.assertEqual(root_of(times(total, total)), (total, (0, 1)))
            self.assertEqual(ratio(total[0], total[1]), total)
            root = whole_root(total[0])
            self.assertTrue(root * root <= total[0] < (root + 1) * (root + 1))
            one = total
        self.assertGreater(one[1], 10 ** 5000)
        with self.assertRaises(NoQuotient):
            over(one, (0, 1))

    def test_root_numbers(self):
        chance = random.Random(32)
        for base in (2, 3):
            one = number(great_fraction(chance), great_fraction(chance), base)
            other = number(great_fraction(chance), great_fraction(chance), base)
            for turn in range(4):
                square = root_times(one, one)
                self.assertTrue(looks_like_number(square))
                self.assertIs(is_number(square), True)
                self.assertEqual(made(square[0], square[1]), square)
                self.assertIs(one_field(square, other), True)
                self.assertEqual(root_over(square, one), one)
                self.assertEqual(root_minus(root_plus(square, other), other), square)
                self.assertEqual(root_sign(square), 1)
                self.assertIs(root_less(square, root_plus(square, ((1, 10 ** 59), (0, 1)))), True)
                one = square
            with self.assertRaises(NoField):
                root_plus(one, ((0, 1), (5, 1)))
            with self.assertRaises(NoQuotient):
                root_over(one, ((0, 1), (0, 1)))


class FirstRefusalTest(unittest.TestCase):

    def test_by_nought_goes_ahead_of_unlike_fields(self):
        for one in (((0, 1), (2, 1)), ((1, 2), (-3, 1)), ((1, 2), (0, 1))):
            with self.assertRaises(RodError) as caught:
                root_over(one, ((0, 1), (0, 1)))
            self.assertIs(type(caught.exception), NoQuotient)


if __name__ == "__main__":
    unittest.main()
