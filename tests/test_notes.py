"""[90] What is written, and what is read."""

import copy
import random
import unittest
from fractions import Fraction

from helps import (
    LEAD_WORDS, RefusalCase, STRANGE, anything, curve, great_fraction, nested, number, pair, plain, rooted,
    sixty_figures, small_fraction, some_curve, some_lead, some_leads,
)
from hingedraw.errors import BadNote
from hingedraw.leads import led
from hingedraw.machines import is_machine
from hingedraw.notes import (
    curve_read, curve_text, leads_read, leads_text, machine_read, machine_text, point_read, point_text,
)

HALF = Fraction(1, 2)

POINTS = (
    (plain(0, 0), "0 0"),
    (plain(1, -1), "1 -1"),
    (plain(HALF, Fraction(-22, 7)), "1/2 -22/7"),
    (plain(100, 1020), "100 1020"),
    ((((1, 1), (2, 1)), ((0, 1), (8, 1))), "1@2 0@8"),
    ((((1, 2), (-3, 4)), ((0, 1), (0, 1))), "1/2@-3/4 0"),
    ((((-1, 2), (0, 1)), ((-7, 3), (10, 3))), "-1/2 -7/3@10/3"),
    (plain(10 ** 59, Fraction(-1, 10 ** 59)), "1" + "0" * 59 + " -1/1" + "0" * 59),
)

MACHINES = (
    ((("fix", (0, 1), (0, 1)),), "fix 0 0"),
    ((("fix", (1, 2), (-3, 1)), ("crank", 0, (5, 2))), "fix 1/2 -3 ; crank 0 5/2"),
    ((("fix", (0, 1), (0, 1)), ("fix", (4, 1), (0, 1)), ("crank", 0, (2, 1)), ("pair", 2, 1, (20, 1), (16, 3), 0),
      ("like", 2, 3, (1, 2), (-1, 7))),
     "fix 0 0 ; fix 4 0 ; crank 0 2 ; pair 2 1 20 16/3 0 ; like 2 3 1/2 -1/7"),
    ((("fix", (0, 1), (0, 1)), ("fix", (1, 1), (0, 1)), ("pair", 0, 1, (1, 1), (1, 1), 1)),
     "fix 0 0 ; fix 1 0 ; pair 0 1 1 1 1"),
    ((("fix", (0, 1), (0, 1)),) + (("crank", 0, (1, 1)),) * 6, "fix 0 0" + " ; crank 0 1" * 6),
)

LEADS = (
    ([("shift", (1, 1), (-2, 3))], "shift 1 -2/3"),
    ([("grow", (0, 1), (0, 1), (-1, 2))], "grow 0 0 -1/2"),
    ([("turn", (1, 1), (2, 1), (3, 5), (-4, 5))], "turn 1 2 3/5 -4/5"),
    ([("turn", (0, 1), (0, 1), (0, 1), (1, 1))], "turn 0 0 0 1"),
    ([("mirror", (0, 1), (1, 1), (0, 1))], "mirror 0 1 0"),
    ([("mirror", (-1, 2), (0, 1), (7, 1))], "mirror -1/2 0 7"),
    ([("invert", (0, 1), (0, 1), (-3, 1))], "invert 0 0 -3"),
    ([("shift", (1, 1), (2, 1)), ("invert", (0, 1), (1, 3), (4, 1))], "shift 1 2 ; invert 0 1/3 4"),
    ([("shift", (0, 1), (0, 1))] * 6, " ; ".join(["shift 0 0"] * 6)),
)

CURVES = (
    ({(0, 0): (1, 1)}, "1 0 0"),
    (curve({(1, 0): 2, (0, 1): -3, (0, 0): HALF}), "2 1 0 ; -3 0 1 ; 1/2 0 0"),
    (curve({(0, 0): -1, (0, 2): 1, (2, 0): 1}), "1 2 0 ; 1 0 2 ; -1 0 0"),
    (curve({(9, 9): 1, (9, 0): 1, (0, 9): 1, (8, 9): 1}), "1 9 9 ; 1 9 0 ; 1 8 9 ; 1 0 9"),
    (curve({(1, 1): Fraction(-22, 7), (1, 2): 4, (2, 0): 1}), "1 2 0 ; 4 1 2 ; -22/7 1 1"),
)

WRONG_NUMBERS = (
    "", " ", "-", "+1", "--1", "1-", "- 1", "01", "00", "-0", "-01", "007", "1.0", "1.", ".5", "1e3", "0x1", "1_000",
    "one", "z", "a", "none", "1,0", "1/", "/2", "/", "1//2", "1/2/3", "1/1", "2/1", "0/1", "0/2", "-0/2", "2/4", "-2/4",
    "10/100", "1/0", "0/0", "1/-2", "-1/-2", "1/+2", "1/02", "01/2", "-/2", "1 /2", "1/ 2", "\u0661", "\u00b2", "1\n",
    "\n1", "1\t", "1\u00a0", "\uff11", "1%", "(1)", "True", "None", "1@", "@", "@2",
)

WRONG_ROOTS = (
    "1@0", "1@1", "1@4", "1@-4", "1@1/4", "1@-9/4", "0@0", "1@@2", "1@2@3", "1@ 2", "1 @2", "@2", "1@", "1@+2", "1@02",
    "1@2/4", "1@2/1", "01@2", "1@a", "2/4@2", "1@--2", "1@-0", "1/2@1/0",
)

WRONG_POINTS = (
    "", " ", "0", "0 ", " 0", "0  0", " 0 0", "0 0 ", "0 0 0", "0,0", "0;0", "0 ; 0", "0\t0", "0\n0", "0 0\n",
    "point 0 0", "1@2 1@3", "0@2 0@6", "1@1/2 1@1/3", "(0, 0)",
)

WRONG_MACHINES = (
    "", " ", ";", " ; ", "fix", "fix ", "fix 0", "fix 0 ", "fix 0 0 ", " fix 0 0", "fix  0 0", "fix 0  0", "fix 0 0 0",
    "Fix 0 0", "FIX 0 0", "fox 0 0", "0 0", "fix 0 0;", "fix 0 0 ;", "fix 0 0 ; ", "; fix 0 0", " ; fix 0 0",
    "fix 0 0;fix 1 0", "fix 0 0 ;fix 1 0", "fix 0 0; fix 1 0", "fix 0 0  ; fix 1 0", "fix 0 0 ;  fix 1 0",
    "fix 0 0 ; ; fix 1 0", "fix 0 0 , fix 1 0", "fix 0 0 fix 1 0", "fix 0 0\n", "fix 0 0 ; \nfix 1 0", "fix\t0 0",
    "fix 0@2 0",
    # of right words, yet no machine
    "crank 0 1", "fix 0 0 ; crank 1 1", "fix 0 0 ; crank -1 1", "fix 0 0 ; crank 0 0", "fix 0 0 ; crank 0 -1",
    "fix 0 0 ; crank 0 1 ; crank 1 1", "fix 0 0 ; crank 0", "fix 0 0 ; crank 0 1 1", "fix 0 0 ; crank 1/2 1",
    "fix 0 0 ; crank 0/1 1", "fix 0 0 ; crank 00 1", "fix 0 0 ; pair 0 0 1 1 0", "fix 0 0 ; pair 0 1 1 1 0",
    "fix 0 0 ; fix 1 0 ; pair 0 1 1 1 2", "fix 0 0 ; fix 1 0 ; pair 0 1 1 1 -1", "fix 0 0 ; fix 1 0 ; pair 0 1 1 1 1/2",
    "fix 0 0 ; fix 1 0 ; pair 0 1 1 1", "fix 0 0 ; fix 1 0 ; pair 0 1 1 1 0 0", "fix 0 0 ; fix 1 0 ; pair 0 1 0 1 0",
    "fix 0 0 ; fix 1 0 ; pair 0 1 1 -1 0", "fix 0 0 ; fix 1 0 ; pair 0 2 1 1 0", "fix 0 0 ; fix 1 0 ; pair 1/2 1 1 1 0",
    "fix 0 0 ; fix 1 0 ; like 0 0 1 1", "fix 0 0 ; fix 1 0 ; like 0 2 1 1", "fix 0 0 ; fix 1 0 ; like 0 1 1",
    "fix 0 0 ; fix 1 0 ; like 0 1 1 1 1", "fix 0 0 ; fix 1 0 ; like 0 3/2 1 1", "fix 0 0 ; fix 1 0 ; like 0 01 1 1",
    "shift 0 0", "1 0 0", "0 0", " ; ".join(["fix 0 0"] * 8),
)

WRONG_LEADS = (
    "", " ", ";", " ; ", "shift", "shift 1", "shift 1 2 3", "shift 1 2 ", " shift 1 2", "shift  1 2", "shift 1 2 ;",
    "shift 1 2 ; ", " ; shift 1 2", "shift 1 2;shift 1 2", "shift 1 2 ;  shift 1 2", "shift 1 2  ; shift 1 2",
    "Shift 1 2", "move 1 2", "shift 1@2 0", "1 2", "grow 0 0", "grow 0 0 0", "grow 0 0 1 1", "turn 0 0 1",
    "turn 0 0 1 1", "turn 0 0 0 0", "turn 0 0 3/5 3/5", "turn 0 0 1 0 0", "turn 0 0 4/5", "turn 0 0 2 -1",
    "mirror 0 0 0", "mirror 0 0 1", "mirror 1 0", "mirror 1 0 0 0", "invert 0 0 0", "invert 0 0", "invert 0 0 1 1",
    "shift 1 2 ; grow 0 0 0", "fix 0 0", "1 0 0", " ; ".join(["shift 0 0"] * 7), " ; ".join(["shift 0 0"] * 9),
    "shift 1 2\n", "shift 1 2 ; \n",
)

WRONG_CURVES = (
    "", " ", ";", " ; ", "0", "1", "1 0", "1 0 0 0", "1 0 0 ", " 1 0 0", "1  0 0", "1 0 0 ;", "1 0 0 ; ", " ; 1 0 0",
    "0 0 0", "0 1 1", "1 1 0 ; 0 0 0", "1 10 0", "1 0 10", "1 12 0 ; 1 0 0", "1 -1 0", "1 0 -1", "1 1/2 0", "1 01 0",
    "1 0 00", "1 + 0", "1 a 0", "1 1 0 ; 1 1 0", "1 0 1 ; 1 1 0", "1 0 0 ; 1 1 0", "1 0 0 ; 1 0 1", "1 1 0 ; 1 1 1",
    "1 2 0 ; 1 0 2 ; 1 0 2", "1 1 0;1 0 0", "1 1 0 ;1 0 0", "1 1 0 ;  1 0 0", "1 1 0 , 1 0 0", "1 1 0 1 0 0",
    "1@2 1 0", "x 1 0", "1 1 0\n", "1 \u00b9 0", "1 \u0661 0", "{(0, 0): (1, 1)}", "fix 0 0", "line 1 0 0",
)

READERS = (machine_read, leads_read, curve_read, point_read)
RIGHT = ((POINTS, point_text, point_read), (MACHINES, machine_text, machine_read), (LEADS, leads_text, leads_read),
         (CURVES, curve_text, curve_read))


def some_machine(chance):
    """By steps that are right for what stands ahead."""
    steps = [("fix", pair(small_fraction(chance)), pair(small_fraction(chance)))]
    while len(steps) < chance.randint(1, 7):
        fixed = [at for at, step in enumerate(steps) if step[0] == "fix"]
        word = chance.choice(("fix", "crank", "pair", "like") if len(steps) > 1 else ("fix", "crank"))
        numbers = [pair(abs(small_fraction(chance)) or HALF) for turn in range(2)]
        if word == "fix":
            steps.append((word, pair(great_fraction(chance)), pair(small_fraction(chance))))
        elif word == "crank":
            steps.append((word, chance.choice(fixed), numbers[0]))
        else:
            one, other = chance.sample(range(len(steps)), 2)
            side = (chance.randint(0, 1),) if word == "pair" else ()
            steps.append((word, one, other) + tuple(numbers) + side)
    return tuple(steps)


def near(text):
    """The text with one sign fewer, more or another one."""
    for at in range(len(text) + 1):
        for sign in " ;/@-0123456789fx":
            yield text[:at] + sign + text[at:]
            yield text[:at] + sign + text[at + 1:]
        yield text[:at] + text[at + 1:]


class WrittenTest(unittest.TestCase):

    def test_written_out(self):
        for cases, text_of, read in RIGHT:
            for thing, text in cases:
                self.assertEqual(text_of(thing), text)

    def test_leads_as_a_tuple(self):
        for thing, text in LEADS:
            self.assertEqual(leads_text(tuple(thing)), text)

    def test_in_whatever_order_a_curve_was_made(self):
        for thing, text in CURVES:
            self.assertEqual(curve_text(dict(reversed(list(thing.items())))), text)
            self.assertEqual(curve_text(dict(sorted(thing.items()))), text)

    def test_powers_above_nine_are_written_yet_not_read(self):
        self.assertEqual(curve_text(curve({(12, 0): 1, (2, 10): -1, (0, 0): 3})), "1 12 0 ; -1 2 10 ; 3 0 0")


class ReadTest(RefusalCase):

    def test_written_out(self):
        for cases, text_of, read in RIGHT:
            for thing, text in cases:
                self.assertEqual(read(text), thing)
                self.assertIs(type(read(text)), type(thing))

    def test_kinds_within(self):
        self.assertIs(type(machine_read("fix 0 0 ; crank 0 1")[1]), tuple)
        self.assertIs(type(leads_read("shift 0 0")[0]), tuple)
        self.assertIs(type(machine_read("fix 0 0 ; crank 0 1")[1][1]), int)
        for thing, text in MACHINES:
            self.assertIs(is_machine(machine_read(text)), True)

    def test_wrong_numbers(self):
        for word in WRONG_NUMBERS:
            for text in (word + " 0", "0 " + word):
                self.assert_refused(BadNote, point_read, text)
            for text in (f"fix {word} 0", f"fix 0 {word}", f"fix 0 0 ; crank {word} 1", f"fix 0 0 ; crank 0 {word}",
                         f"fix 0 0 ; fix 1 0 ; pair 0 1 1 1 {word}", f"fix 0 0 ; fix 1 0 ; like {word} 1 0 0"):
                self.assert_refused(BadNote, machine_read, text)
            for text in (f"shift {word} 0", f"invert 0 0 {word}", f"turn 0 0 1 {word}"):
                self.assert_refused(BadNote, leads_read, text)
            for text in (f"{word} 0 0", f"1 {word} 0", f"1 0 {word}"):
                self.assert_refused(BadNote, curve_read, text)

    def test_wrong_roots(self):
        for word in WRONG_ROOTS:
            self.assert_refused(BadNote, point_read, word + " 0")
            self.assert_refused(BadNote, point_read, "0 " + word)

    def test_wrong_texts(self):
        for texts, read in ((WRONG_POINTS, point_read), (WRONG_MACHINES, machine_read), (WRONG_LEADS, leads_read),
                            (WRONG_CURVES, curve_read)):
            for text in texts:
                self.assert_refused(BadNote, read, text)

    def test_texts_of_other_kinds(self):
        for cases, text_of, read in RIGHT:
            for thing, text in cases:
                for other in READERS:
                    if other is not read:
                        self.assert_refused(BadNote, other, text)

    def test_what_is_no_text(self):
        things = [thing for thing in STRANGE if type(thing) is not str]
        things += [nested(20, "0 0"), ["0 0"], ("0 0",), {"0 0": "0 0"}, [], {}, (), ["0", "0"], plain(0, 0), 10 ** 60]
        things += [thing for cases, text_of, read in RIGHT for thing, text in cases]
        chance = random.Random(98)
        things += [thing for thing in [anything(chance, 4) for turn in range(100)] if type(thing) is not str]
        for thing in things:
            before = copy.deepcopy(thing)
            for read in READERS:
                self.assert_refused(BadNote, read, thing)
            self.assertEqual(thing, before)

    def test_just_what_is_written_is_read(self):
        taken = 0
        for cases, text_of, read in RIGHT:
            for thing, text in cases:
                if len(text) > 80:
                    continue
                for other in near(text):
                    try:
                        told = read(other)
                    except BadNote:
                        continue
                    taken += 1
                    self.assertEqual(text_of(told), other)
        self.assertGreater(taken, 500)

    def test_signs_that_are_none_of_these(self):
        # The document's texts have none of these; yet what is no such text is refused, too.
        for cases, text_of, read in RIGHT:
            for thing, text in cases:
                for sign in ("%", "\n", "\u00e4", "\u0660", "\u00b2", "\x00", "\ud800"):
                    self.assert_refused(BadNote, read, text + sign)
                    self.assert_refused(BadNote, read, sign + text)


class WrittenAndReadTest(unittest.TestCase):

    def assert_same_again(self, text_of, read, thing):
        text = text_of(thing)
        self.assertIs(type(text), str)
        self.assertEqual(read(text), thing)
        self.assertEqual(text_of(read(text)), text)

    def test_machines(self):
        chance = random.Random(99)
        for turn in range(200):
            machine = some_machine(chance)
            self.assertIs(is_machine(machine), True)
            self.assert_same_again(machine_text, machine_read, machine)

    def test_leads(self):
        chance = random.Random(100)
        for turn in range(100):
            self.assert_same_again(leads_text, leads_read, some_leads(chance, chance.randint(1, 6)))
        for word in LEAD_WORDS:
            self.assert_same_again(leads_text, leads_read, [some_lead(chance, word, great_fraction)])

    def test_curves(self):
        chance = random.Random(101)
        for turn in range(100):
            given = some_curve(chance, chance.randint(0, 9), chance.choice((small_fraction, great_fraction)))
            if given:
                self.assert_same_again(curve_text, curve_read, given)

    def test_points(self):
        chance = random.Random(102)
        for turn in range(200):
            kind = chance.choice((small_fraction, great_fraction))
            base = chance.choice((2, 3, Fraction(5, 7), 12))
            self.assert_same_again(point_text, point_read, rooted((kind(chance), kind(chance)), (kind(chance), kind(chance)), base))
            self.assert_same_again(point_text, point_read, plain(sixty_figures(chance), kind(chance)))

    def test_around_the_blocks_in_which_numbers_are_written(self):
        for figures in (1, 2, 18, 59, 60, 61, 63, 64, 65, 127, 128, 129, 640, 4299, 4300, 4301, 9999):
            for whole in (10 ** figures, 10 ** figures - 1, 10 ** figures + 1, -(10 ** figures), 5 * 10 ** figures + 12):
                self.assert_same_again(point_text, point_read, plain(whole, Fraction(1, abs(whole) + 1)))
        self.assertEqual(point_text(plain(10 ** 5000, 0)), "1" + "0" * 5000 + " 0")
        self.assertEqual(point_text(plain(-10 ** 128 - 7, 0)), "-1" + "0" * 127 + "7 0")

    def test_points_that_were_told_whatever_their_size(self):
        chance = random.Random(103)
        leads = [some_lead(chance, "invert", great_fraction) for turn in range(3)]
        point = (number(great_fraction(chance), great_fraction(chance), 3), number(0, great_fraction(chance), 3))
        told = led(leads, point)
        self.assertGreater(len(point_text(told)), 5000)
        self.assert_same_again(point_text, point_read, told)

    def test_what_is_handed_in_is_left_and_two_answers_are_two(self):
        for cases, text_of, read in RIGHT:
            for thing, text in cases:
                before = copy.deepcopy(thing)
                text_of(thing)
                self.assertEqual(thing, before)
                told = read(text)
                if type(told) in (list, dict):
                    again = read(text)
                    self.assertIsNot(again, told)
                    told.clear()
                    self.assertEqual(read(text), again)


if __name__ == "__main__":
    unittest.main()
