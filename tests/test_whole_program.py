"""[1] What the parts promise together, and [2] over leads, cells, notes and the desk."""

import copy
import random
import unittest
from fractions import Fraction

from helps import (
    RefusalCase, anything, curve, great_fraction, nested, number, pair, plain, rooted, small_fraction, some_curve,
    some_lead, some_leads, some_linkage, some_place,
)
from hingedraw.cells import (
    draws, drawn_line, growing_cell, growing_linkage, inverting_cell, inverting_linkage, line_cell, round_point,
)
from hingedraw.coupler import coupler_curve, pen_machine
from hingedraw.curves import circle_about, curve_times, degree_of, normal, on_curve
from hingedraw.desk import Desk
from hingedraw.errors import BadNote, NoQuotient, RodError
from hingedraw.leads import curve_led, kind_of, led, led_back
from hingedraw.linkages import first_wrong, freedom, is_linkage
from hingedraw.machines import is_machine, linkage_of, stand
from hingedraw.notes import (
    curve_read, curve_text, leads_read, leads_text, machine_read, machine_text, point_read, point_text,
)
from hingedraw.roots import is_number
from hingedraw.swings import balance, is_right, many_swings, paper_of

FOUR = (((0, 1), (0, 1)), ((4, 1), (0, 1)), (1, 1), ((9, 1), (9, 1)), ((1, 2), (1, 2)))
LEADS = [("shift", (1, 2), (3, 1)), ("invert", (1, 1), (0, 1), (-2, 3)), ("mirror", (1, 1), (2, 1), (3, 1)),
         ("turn", (0, 1), (1, 1), (3, 5), (4, 5)), ("grow", (0, 1), (0, 1), (-3, 1))]
ORIGIN = plain(0, 0)


def questions():
    """One of each, made anew: a function, and what is handed in."""
    line = curve({(1, 0): 1, (0, 0): -2})
    cubic = some_curve(random.Random(110))
    return [
        [led, list(LEADS), rooted((1, 2), (0, 1), 3)], [led_back, list(LEADS)], [led_back, tuple(LEADS)], [led_back, []],
        [curve_led, list(LEADS), dict(cubic)], [curve_led, [], dict(cubic)], [curve_led, (), normal(cubic)],
        [curve_led, list(LEADS), curve({(0, 0): 1})], [kind_of, dict(line)],
        [kind_of, circle_about(plain(1, 2), (3, 1))], [kind_of, dict(cubic)],
        [inverting_linkage, (4, 1), (2, 1)], [inverting_cell, ORIGIN, plain(2, 0), (4, 1), (2, 1)],
        [growing_linkage, (4, 1), (2, 1), (3, 1)], [growing_cell, ORIGIN, plain(2, 0), (4, 1), (2, 1), (3, 1)],
        [round_point, ORIGIN, plain(1, 0), ((1, 1), (2, 1))], [drawn_line, ORIGIN, plain(1, 0), (4, 1)],
        [draws, dict(line), ORIGIN, plain(1, 0), (5, 1), (1, 1)], [line_cell, dict(line), ORIGIN],
        [machine_text, pen_machine(*FOUR, 0)], [leads_text, list(LEADS)], [leads_text, tuple(LEADS)],
        [curve_text, dict(cubic)], [point_text, rooted((1, 2), (0, 1), 3)],
        [machine_read, "fix 0 0 ; crank 0 1"], [leads_read, "shift 1 2 ; grow 0 0 2"], [curve_read, "1 1 0 ; 2 0 0"],
        [point_read, "1@2 0"],
    ]


def changeable(thing):
    """Every list and dict in it, itself too."""
    if type(thing) in (list, dict):
        yield thing
    if type(thing) in (list, tuple):
        for part in thing:
            yield from changeable(part)
    if type(thing) is dict:
        for key, part in thing.items():
            yield from changeable(key)
            yield from changeable(part)


class HandedInTest(unittest.TestCase):

    def test_left_as_it_was_and_the_same_answer_again(self):
        asked = questions()
        before = copy.deepcopy(asked)
        first = [copy.deepcopy(question[0](*question[1:])) for question in asked]
        self.assertEqual(asked, before)
        for read in (machine_read, leads_read, curve_read, point_read):
            self.assertRaises(BadNote, read, "no")
        self.assertRaises(NoQuotient, led, LEADS[1:2], plain(1, 0))
        for question, told in reversed(list(zip(asked, first))):
            again = question[0](*question[1:])
            self.assertEqual(again, told)
            self.assertIs(type(again), type(told))
        self.assertEqual(asked, before)

    def test_what_is_told_is_the_askers_own(self):
        for question in questions():
            told, again = question[0](*question[1:]), question[0](*question[1:])
            held = list(changeable(question[1:])) + list(changeable(told)) + list(changeable(again))
            self.assertEqual(len({id(thing) for thing in held}), len(held), question[0])

    def test_what_was_told_may_be_spoilt(self):
        for question in questions():
            told = question[0](*question[1:])
            kept = copy.deepcopy(told)
            for thing in list(changeable(told)):
                thing.clear()
            self.assertEqual(question[0](*question[1:]), kept)

    def test_what_is_handed_in_is_not_kept(self):
        for question in questions():
            kept = copy.deepcopy(question)
            told = question[0](*question[1:])
            for thing in list(changeable(question[1:])):
                thing.clear()
            self.assertEqual(told, kept[0](*kept[1:]))


class OfAnythingTest(RefusalCase):

    def test_answered_or_refused(self):
        chance = random.Random(111)
        things = [anything(chance, 6) for turn in range(400)]
        things += [nested(deep, within) for deep in (1, 19, 20) for within in ("fix 0 0", 1, None, (), [], {}, True, (1, 1))]
        desk = Desk()
        for thing in things:
            before = copy.deepcopy(thing)
            for asked in (is_number, is_linkage, is_machine):
                self.assertIn(asked(thing), (True, False))
            for asked in (machine_read, leads_read, curve_read, point_read, desk.say):
                self.assert_refused(BadNote, asked, thing)
            self.assertEqual(thing, before)

    def test_what_is_answered_is_so(self):
        # A text that is read writes what is of its kind.
        chance = random.Random(112)
        words = "fix crank pair like shift grow turn mirror invert 0 1 2 -1 1/2 3/5 4/5 ; 1@2".split()
        seen = 0
        for turn in range(20000):
            text = " ".join(chance.choice(words) for word in range(chance.randint(2, 6)))
            for read, write in ((machine_read, machine_text), (leads_read, leads_text), (curve_read, curve_text),
                                (point_read, point_text)):
                try:
                    told = read(text)
                except RodError as error:
                    self.assertIs(type(error), BadNote)
                    continue
                seen += 1
                self.assertEqual(write(told), text)
                if read is machine_read:
                    self.assertIs(is_machine(told), True)
        self.assertGreater(seen, 300)


class TogetherTest(unittest.TestCase):

    def test_a_stand_keeps_each_rods_length(self):
        for side in (0, 1):
            machine = pen_machine(*FOUR, side)
            for drive in ((0, 1), (1, 3), (-5, 2), None):
                place = tuple(stand(machine, (drive,)))
                self.assertIsNone(first_wrong(linkage_of(machine), place))

    def test_a_curve_that_is_told_holds_for_each_stand(self):
        told = coupler_curve(*FOUR)
        for drive in ((0, 1), (1, 3), (-5, 2), None):
            pens = [stand(pen_machine(*FOUR, side), (drive,))[4] for side in (0, 1)]
            self.assertEqual([on_curve(told, pen) for pen in pens], [True, True])

    def test_a_led_curve_holds_for_each_led_stand(self):
        told = coupler_curve(*FOUR)
        for leads in (LEADS[:1] + LEADS[2:], LEADS[1:2], LEADS):
            led_curve = curve_led(leads, told)
            for drive in ((1, 3), None):
                pen = stand(pen_machine(*FOUR, 1), (drive,))[4]
                self.assertIs(on_curve(led_curve, led(leads, pen)), True)
                self.assertIs(on_curve(led_curve, led(leads, plain(50, 50))), False)

    def test_what_is_led_back_is_as_it_was(self):
        chance = random.Random(113)
        for turn in range(40):
            leads = some_leads(chance, chance.randint(1, 6))
            point = rooted((small_fraction(chance), 1), (small_fraction(chance), small_fraction(chance)), 7)
            self.assertEqual(led(led_back(leads), led(leads, point)), point)

    def test_a_curve_is_led_back_but_for_rounds_of_inverts(self):
        chance = random.Random(114)
        for turn in range(40):
            leads = some_leads(chance, chance.randint(1, 3), 1)
            given = some_curve(chance, 2) or curve({(0, 1): 1})
            there = curve_led(leads, given)
            back = curve_led(led_back(leads), there)
            self.assertEqual(curve_led(leads, back), there)
            self.assertLessEqual(degree_of(back), degree_of(given))

    def test_a_paper_that_is_right_shows_what_it_tells(self):
        chance = random.Random(115)
        for turn in range(60):
            linkage = some_linkage(chance)
            place = some_place(chance, linkage[0])
            paper = paper_of(linkage, place)
            self.assertIs(is_right(linkage, place, paper), True)
            many = many_swings(linkage, place)
            if paper == ("free",):
                self.assertEqual(many, freedom(linkage))
            else:
                self.assertIs(balance(linkage, place, paper[1]), True)
                self.assertGreater(many, freedom(linkage))

    def test_cells_stand_and_do_what_leads_do(self):
        chance = random.Random(116)
        for turn in range(40):
            middle = plain(small_fraction(chance), small_fraction(chance))
            line = some_curve(chance, 1)
            if degree_of(line) != 1 or on_curve(line, middle):
                continue
            about, outer, inner = line_cell(line, middle)
            self.assertIs(draws(line, middle, about, outer, inner), True)
            # The point farthest from the middle, where the cell of line_cell can stand.
            point = round_point(middle, about, (pair(Fraction(*about[0][0]) - Fraction(*middle[0][0])),
                                                pair(Fraction(*about[1][0]) - Fraction(*middle[1][0]))))
            place = inverting_cell(middle, point, outer, inner)
            self.assertIsNone(first_wrong(inverting_linkage(outer, inner), place))
            self.assertIs(on_curve(line, place[4]), True)
            # The circle of the point is led onto the line by the invert that the cell does.
            square = pair(sum((Fraction(*about[at][0]) - Fraction(*middle[at][0])) ** 2 for at in (0, 1)))
            lead = ("invert", middle[0][0], middle[1][0], pair(Fraction(*outer) - Fraction(*inner)))
            self.assertEqual(curve_led([lead], circle_about(about, square)), normal(line))

    def test_growing_cells_grow_curves(self):
        middle, by = plain(1, 2), (-3, 2)
        circle = circle_about(plain(3, 2), (1, 1))
        grown = curve_led([("grow", (1, 1), (2, 1), by)], circle)
        for x, y in ((2, 2), (4, 2), (3, 3), (Fraction(18, 5), Fraction(14, 5))):
            self.assertIs(on_curve(circle, plain(x, y)), True)
            place = growing_cell(middle, plain(x, y), (4, 1), (4, 1), by)
            self.assertIsNone(first_wrong(growing_linkage((4, 1), (4, 1), by), place))
            self.assertIs(on_curve(grown, place[5]), True)


class WhateverItsSizeTest(unittest.TestCase):

    def test_what_was_told_is_handed_in_again(self):
        chance = random.Random(117)
        leads = some_leads(chance, 4, 2, great_fraction)
        point = (number(great_fraction(chance), great_fraction(chance), 3), number(great_fraction(chance)))
        told = led(leads, point)
        self.assertEqual(point_read(point_text(told)), told)
        self.assertEqual(led(led_back(leads), point_read(point_text(told))), point)
        drawn = curve_led(leads, curve_times(some_curve(chance, 1, great_fraction), curve({(2, 0): 1, (0, 1): -1})))
        self.assertEqual(curve_read(curve_text(drawn)), drawn)
        self.assertGreater(len(curve_text(drawn)), 10000)
        line = drawn_line(plain(great_fraction(chance), great_fraction(chance)), plain(1, 1), pair(great_fraction(chance)))
        middle = plain(great_fraction(chance), great_fraction(chance))
        self.assertIs(draws(line, middle, *line_cell(line, middle)), True)
        again = line_cell(drawn_line(middle, line_cell(line, middle)[0], (1, 3)), ORIGIN)
        self.assertGreater(again[1][1], 10 ** 200)
        self.assertEqual(kind_of(line)[0], "line")

    def test_a_desk_with_great_numbers(self):
        chance = random.Random(118)
        desk = Desk()
        desk.say("keep leads l " + leads_text([some_lead(chance, "invert", great_fraction) for turn in range(4)]))
        desk.say("back l b")
        point = point_text((number(great_fraction(chance), great_fraction(chance), 3), number(great_fraction(chance))))
        there = desk.say(f"led l {point}")
        self.assertGreater(max(len(word) for word in there.split("/")), 5000)
        self.assertEqual(desk.say(f"led b {there}"), point)


if __name__ == "__main__":
    unittest.main()
