"""[2] What holds throughout, and the interface: names and arguments as they stand."""

import copy
import importlib
import inspect
import random
import unittest

from helps import (
    RefusalCase, great_fraction, great_place, looks_like_curve, looks_like_fraction, looks_like_number, number, pair,
    plain, rooted, some_curve,
)
from hingedraw.coupler import coupler_curve, pen_machine
from hingedraw.curves import (
    circle_about, curve_grown, curve_minus, curve_plus, curve_times, degree_of, line_through, normal, on_curve, slope,
    top_part, value_at,
)
from hingedraw.desk import Desk
from hingedraw.errors import NoCurve, NoField, NoMeet, NoQuotient, Stuck
from hingedraw.fourrods import can_stand, dead_stands, is_stand, many_pieces, one_piece, stands_at, turns
from hingedraw.fractions import minus, over, plus, ratio, root_in, times, whole_root
from hingedraw.linkages import first_wrong, freedom, is_linkage
from hingedraw.machines import is_machine, linkage_of, stand
from hingedraw.points import circles_meet, like_at, line_meets, side_of, square_apart
from hingedraw.roots import (
    is_number, made, one_field, root_less, root_minus, root_of, root_over, root_plus, root_sign, root_times,
)
from hingedraw.swings import balance, is_right, keep, many_swings, paper_of, swings

INTERFACE = {
    "hingedraw.fractions": {
        "ratio": "top bottom", "over": "one other", "plus": "one other", "minus": "one other", "times": "one other",
        "whole_root": "number", "root_in": "one",
    },
    "hingedraw.roots": {
        "is_number": "thing", "made": "part under", "root_of": "fraction", "one_field": "one other",
        "root_plus": "one other", "root_minus": "one other", "root_times": "one other", "root_over": "one other",
        "root_less": "one other", "root_sign": "one",
    },
    "hingedraw.errors": {"Stuck": "step"},
    "hingedraw.points": {
        "square_apart": "one other", "like_at": "one other along left", "side_of": "one other third",
        "circles_meet": "one square other other_square", "line_meets": "one other middle square",
    },
    "hingedraw.linkages": {"is_linkage": "thing", "first_wrong": "linkage place", "freedom": "linkage"},
    "hingedraw.swings": {
        "keep": "linkage place speeds", "many_swings": "linkage place", "swings": "linkage place",
        "balance": "linkage place weights", "paper_of": "linkage place", "is_right": "linkage place paper",
    },
    "hingedraw.machines": {"is_machine": "thing", "stand": "machine drives", "linkage_of": "machine"},
    "hingedraw.fourrods": {
        "can_stand": "rods", "is_stand": "rods stand", "stands_at": "rods drive", "turns": "rods word",
        "dead_stands": "rods", "many_pieces": "rods", "one_piece": "rods one other",
    },
    "hingedraw.curves": {
        "curve_plus": "one other", "curve_minus": "one other", "curve_times": "one other", "curve_grown": "curve by",
        "normal": "curve", "degree_of": "curve", "top_part": "curve", "slope": "curve at", "value_at": "curve point",
        "on_curve": "curve point", "line_through": "one other", "circle_about": "middle square",
    },
    "hingedraw.coupler": {
        "pen_machine": "one other crank squares place side", "coupler_curve": "one other crank squares place",
    },
    "hingedraw.leads": {
        "led": "leads point", "led_back": "leads", "curve_led": "leads curve", "kind_of": "curve",
    },
    "hingedraw.cells": {
        "inverting_linkage": "outer inner", "inverting_cell": "middle point outer inner",
        "growing_linkage": "near far by", "growing_cell": "middle point near far by",
        "round_point": "middle about way", "drawn_line": "middle about power", "draws": "line middle about outer inner",
        "line_cell": "line middle",
    },
    "hingedraw.notes": {
        "machine_text": "machine", "leads_text": "leads", "curve_text": "curve", "point_text": "point",
        "machine_read": "text", "leads_read": "text", "curve_read": "text", "point_read": "text",
    },
    "hingedraw.desk": {"Desk": ""},
}

LINKAGE = (4, (0, 1), ((0, 1, (1, 1)), (1, 2, (1, 1)), (2, 3, (1, 1)), (0, 3, (1, 1))))
MACHINE = (
    ("fix", (0, 1), (0, 1)), ("fix", (4, 1), (0, 1)), ("crank", 0, (1, 1)), ("pair", 2, 1, (9, 1), (9, 1), 0),
    ("like", 2, 3, (1, 2), (1, 2)),
)
RODS = ((2, 1), (1, 1), (4, 1), (4, 1))
FOUR = (((0, 1), (0, 1)), ((4, 1), (0, 1)), (1, 1), ((9, 1), (9, 1)), ((1, 2), (1, 2)))


def with_part(thing, way, part):
    """The tuple with another part at the end of the way, a list of places."""
    if not way:
        return part
    return thing[:way[0]] + (with_part(thing[way[0]], way[1:], part),) + thing[way[0] + 1:]


def ways_to_wholes(thing, way=()):
    if type(thing) is int:
        yield way
    if type(thing) is tuple:
        for at, part in enumerate(thing):
            yield from ways_to_wholes(part, way + (at,))


class InterfaceTest(unittest.TestCase):

    def test_names_and_arguments(self):
        for module, names in INTERFACE.items():
            for name, words in names.items():
                asked = getattr(importlib.import_module(module), name)
                self.assertEqual(" ".join(inspect.signature(asked).parameters), words, (module, name))
        self.assertEqual(" ".join(inspect.signature(Desk().say).parameters), "line")


class WholeNumbersTest(unittest.TestCase):

    def test_truths_are_no_whole_numbers(self):
        right = [[1, 1], [3, 1]]
        self.assertIs(is_number(((1, 1), (3, 1))), True)
        for at in (0, 1):
            for within in (0, 1):
                for truth in (True, False):
                    wrong = copy.deepcopy(right)
                    wrong[at][within] = truth
                    self.assertIs(is_number((tuple(wrong[0]), tuple(wrong[1]))), False)

    def test_truths_are_none_in_linkages_and_machines(self):
        for asked, right in ((is_linkage, LINKAGE), (is_machine, MACHINE)):
            self.assertIs(asked(right), True)
            for way in ways_to_wholes(right):
                for truth in (True, False):
                    self.assertIs(asked(with_part(right, way, truth)), False)


class HandedInTest(unittest.TestCase):

    def test_what_is_handed_in_is_not_changed(self):
        for thing in (
            [(1, 1), (2, 1)], ([1, 1], [2, 1]), {"part": (1, 1), "under": [2, 1]}, ((1, [1]), (2, {1: 1})),
            [[], {}, [[]]],
        ):
            for built in (thing, (3, thing, thing), (4, (), (thing,)), (thing, ("crank", thing, [1, 1])),
                          [MACHINE[0], thing]):
                before = copy.deepcopy(built)
                for asked in (is_number, is_linkage, is_machine):
                    asked(built)
                    self.assertEqual(built, before)

    def test_what_is_handed_in_is_not_kept(self):
        thing = [(1, 1), (2, 1)]
        self.assertIs(is_number(thing), False)
        thing.append(3)
        self.assertIs(is_number(tuple(thing)), False)
        thing.pop()
        self.assertIs(is_number(tuple(thing)), True)
        self.assertIs(is_number(thing), False)

    def test_the_same_answer_again(self):
        chance = random.Random(30)
        one = number(great_fraction(chance), great_fraction(chance), 5)
        other = number(great_fraction(chance), great_fraction(chance), 5)
        strange = number(great_fraction(chance), great_fraction(chance), 3)
        for asked in (root_plus, root_minus, root_times, root_over, root_less, one_field):
            first = asked(one, other)
            if asked is not one_field:
                self.assertRaises(NoField, asked, one, strange)
            self.assertEqual(asked(one, other), first)

    def test_the_same_answer_again_of_all_that_is_asked_of_places(self):
        place = (plain(0, 0), plain(1, 0), plain(1, 1), plain(0, 1))
        strange = (plain(0, 0), plain(1, 0), rooted((0, 1), (0, 0), 2), rooted((0, 1), (0, 0), 3))
        questions = (
            (swings, LINKAGE, place), (many_swings, LINKAGE, place), (paper_of, LINKAGE, place),
            (first_wrong, LINKAGE, place),
            (freedom, LINKAGE), (stand, MACHINE, ((1, 3),)), (linkage_of, MACHINE),
            (line_meets, place[0], place[1], place[2], (2, 1)),
            (circles_meet, place[0], (2, 1), place[2], (2, 1)), (side_of,) + place[:3], (square_apart,) + place[1:3],
            (like_at,) + place[1:3] + ((1, 2), (1, 3)),
        )
        first = [question[0](*question[1:]) for question in questions]
        self.assertRaises(NoField, first_wrong, LINKAGE, strange)
        self.assertRaises(Stuck, stand, MACHINE[:2] + (("pair", 0, 1, (1, 1), (1, 1), 0),), ())
        for question, told in reversed(list(zip(questions, first))):
            again = question[0](*question[1:])
            self.assertEqual(again, told)
            if type(told) is list:
                self.assertIsNot(again, told)
                told.clear()
                self.assertEqual(question[0](*question[1:]), again)


    def test_the_same_answer_again_of_rods_and_curves(self):
        one, other = some_curve(random.Random(35)), some_curve(random.Random(36))
        point = rooted((1, 2), (0, 1), 3)
        stands = stands_at(RODS, (2, 3)) + stands_at(RODS, (-2, 3))
        questions = (
            (can_stand, RODS), (is_stand, RODS, stands[0]), (stands_at, RODS, (2, 3)), (turns, RODS, "coupler"),
            (dead_stands, RODS), (many_pieces, RODS), (one_piece, RODS, stands[0], stands[-1]),
            (curve_plus, one, other), (curve_minus, one, other), (curve_times, one, other), (curve_grown, one, (2, 3)),
            (normal, one), (degree_of, one), (top_part, one), (slope, one, 0), (slope, one, 1), (value_at, one, point),
            (on_curve, one, point), (line_through, plain(0, 1), plain(2, 3)), (circle_about, plain(0, 1), (2, 3)),
            (pen_machine,) + FOUR + (1,), (coupler_curve,) + FOUR,
        )
        before = copy.deepcopy(questions)
        first = [question[0](*question[1:]) for question in questions]
        self.assertRaises(NoCurve, normal, {})
        self.assertRaises(NoMeet, stands_at, ((1, 1), (2, 1), (2, 1), (1, 1)), (0, 1))
        self.assertRaises(NoMeet, line_through, plain(1, 1), plain(1, 1))
        for question, told in reversed(list(zip(questions, first))):
            again = question[0](*question[1:])
            self.assertEqual(again, told)
            self.assertEqual(type(again), type(told))
            if type(told) in (list, dict):
                self.assertIsNot(again, told)
                told.clear()
                self.assertEqual(question[0](*question[1:]), again)
        self.assertEqual(questions, before)


class WhateverItsSizeTest(unittest.TestCase):

    def test_fractions(self):
        chance = random.Random(31)
        one = pair(great_fraction(chance))
        other = pair(great_fraction(chance))
        for turn in range(6):
            total = plus(times(one, one), times(other, other))
            self.assertTrue(looks_like_fraction(total))
            self.assertEqual(minus(total, times(other, other)), times(one, one))
            self.assertEqual(over(times(one, other), other), one)
            self.assertEqual(root_in(times(total, total)), total)
            self.assertEqual(root_of(times(total, total)), (total, (0, 1)))
            self.assertEqual(ratio(total[0], total[1]), total)
            root = whole_root(total[0])
            self.assertTrue(root * root <= total[0] < (root + 1) * (root + 1))
            one = total
        self.assertGreater(one[1], 10 ** 5000)
        with self.assertRaises(NoQuotient):
            over(one, (0, 1))

    def test_root_numbers(self):
        chance = random.Random(32)
        for base in (2, 3):
            one = number(great_fraction(chance), great_fraction(chance), base)
            other = number(great_fraction(chance), great_fraction(chance), base)
            for turn in range(4):
                square = root_times(one, one)
                self.assertTrue(looks_like_number(square))
                self.assertIs(is_number(square), True)
                self.assertEqual(made(square[0], square[1]), square)
                self.assertIs(one_field(square, other), True)
                self.assertEqual(root_over(square, one), one)
                self.assertEqual(root_minus(root_plus(square, other), other), square)
                self.assertEqual(root_sign(square), 1)
                self.assertIs(root_less(square, root_plus(square, ((1, 10 ** 59), (0, 1)))), True)
                one = square
            with self.assertRaises(NoField):
                root_plus(one, ((0, 1), (5, 1)))
            with self.assertRaises(NoQuotient):
                root_over(one, ((0, 1), (0, 1)))

    def test_points_that_were_told(self):
        chance = random.Random(33)
        one, other = plain(great_fraction(chance), 0), plain(0, great_fraction(chance))
        square = square_apart(one, other)[0]
        left, right = circles_meet(one, square, other, square)
        for turn in range(4):
            self.assertEqual((side_of(one, other, left), side_of(one, other, right)), (1, -1))
            self.assertEqual(square_apart(one, left), square_apart(one, right))
            self.assertEqual(square_apart(left, right)[1], (0, 1))
            self.assertIsNone(first_wrong((2, (), ((0, 1, square_apart(left, right)[0]),)), (left, right)))
            by = pair(abs(great_fraction(chance)))
            left, right = like_at(one, left, by, (0, 1)), like_at(one, right, by, (0, 1))
        back, there = line_meets(one, other, one, square)
        self.assertEqual(there, other)
        self.assertEqual(circles_meet(one, square, back, times((4, 1), square)), [other])

    def test_stands_speeds_and_weights_that_were_told(self):
        chance = random.Random(34)
        drive = pair(great_fraction(chance))
        points = stand(MACHINE, (drive,))
        self.assertIsNone(first_wrong(linkage_of(MACHINE), tuple(points)))
        for many, fixed in ((6, ()), (6, (0, 1)), (5, (0, 1, 2))):
            joints = [(one, other) for one in range(many) for other in range(one + 1, many)]
            linkage = (many, fixed, tuple((one, other, (1, 1)) for one, other in joints[:12]))
            place = great_place(chance, many)
            told = swings(linkage, place)
            self.assertEqual(len(told), many_swings(linkage, place))
            for speeds in told:
                self.assertIs(keep(linkage, place, speeds), True)
            paper = paper_of(linkage, place)
            self.assertIs(is_right(linkage, place, paper), True)
            self.assertEqual(paper[0], "bound")
            self.assertIs(balance(linkage, place, paper[1]), True)


    def test_rods_and_their_stands(self):
        # Rods as great as sums that were told, far beyond sixty figures.
        chance = random.Random(37)
        grow = pair(abs(great_fraction(chance)))
        for turn in range(4):
            grow = times(grow, plus(grow, (1, 3)))
        self.assertGreater(grow[1], 10 ** 500)
        rods = tuple(times(rod, grow) for rod in RODS)
        self.assertIs(can_stand(rods), True)
        self.assertEqual(many_pieces(rods), 2)
        self.assertEqual([turns(rods, word) for word in ("crank", "rocker", "coupler")], [False, False, True])
        dead = dead_stands(rods)
        self.assertEqual([told[0] for told in dead], ["stretched", "stretched", "folded", "folded"])
        found = stands_at(rods, (2, 3)) + [told[1:] for told in dead]
        for told in found:
            self.assertIs(is_stand(rods, told), True)
            self.assertIs(one_piece(rods, told, found[0]), told[0][1][0][0] > 0 or told[0][1][1][0] > 0)

    def test_curves_that_were_told(self):
        chance = random.Random(38)
        keys = ((0, 0), (1, 0), (0, 1), (1, 1))
        one, other = [{key: pair(great_fraction(chance)) for key in keys} for turn in range(2)]
        first, point = one, plain(great_fraction(chance), great_fraction(chance))
        for turn in range(3):
            told = curve_plus(curve_times(one, other), first)
            self.assertTrue(looks_like_curve(told))
            self.assertEqual(curve_minus(told, first), curve_times(other, one))
            self.assertEqual(normal(curve_grown(normal(told), (-7, 3))), normal(told))
            value = root_plus(root_times(value_at(one, point), value_at(other, point)), value_at(first, point))
            self.assertEqual(value_at(told, point), value)
            self.assertEqual(value_at(curve_minus(told, {(0, 0): value[0]}), point), ((0, 1), (0, 1)))
            self.assertIs(on_curve(curve_minus(told, {(0, 0): value[0]}), point), True)
            one = told
        self.assertGreater(max(fraction[1] for fraction in one.values()), 10 ** 500)


class FirstRefusalTest(RefusalCase):

    def test_by_nought_goes_ahead_of_unlike_fields(self):
        for one in (((0, 1), (2, 1)), ((1, 2), (-3, 1)), ((1, 2), (0, 1))):
            self.assert_refused(NoQuotient, root_over, one, ((0, 1), (0, 1)))


if __name__ == "__main__":
    unittest.main()
