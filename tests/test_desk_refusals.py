"""[92] What a desk refuses, and in which order."""

import copy
import random
import unittest

from helps import RefusalCase, STRANGE, anything, nested
from hingedraw.desk import Desk
from hingedraw.errors import BadNote, NoField, NoMachine, NoName, NoQuotient, RodError, Stuck

RODS = "fix 0 0 ; fix 4 0 ; crank 0 2 ; pair 2 1 20 16 0"
LOOKS = ("names machine", "names leads", "names curve", "show machine m", "show machine stuck", "show machine unlike",
         "show leads l", "show leads i", "show curve c", "stand m 1")

NO_LINES = (
    "", " ", "keep", "show", "names", "stand", "led", "back", "drawn", "kind", "on", "Keep curve c 1 1 0",
    "KEEP curve c 1 1 0", "off c 1 1", "On c 1 1", "x c 1 1", "shows curve c", "name curve", "kinds c", "stands m 1",
    "hold curve c 1 1 0", "c", "ok", "0 0", "names machine ", " names machine", "names  machine",
    "names machine machine", "names machines", "names Machine", "names lead", "names m", "names ", "names\tmachine",
    "names machine\n", "keep curve", "keep curve c", "keep curve c ", "keep curve c  1 1 0", "keep  curve c 1 1 0",
    "keep curve  c 1 1 0", "keep curve c 1 1 0 ", " keep curve c 1 1 0", "keep line c 1 1 0", "keep c 1 1 0",
    "keep curve 1 1 0", "keep curve C 1 1 0", "keep curve abcdefghi 1 1 0", "keep curve a1 1 1 0",
    "keep curve a_b 1 1 0", "keep curve \u00e4 1 1 0", "keep curve a-b 1 1 0", "keep curve c 1 1",
    "keep curve c 0 1 1", "keep curve c 1 10 0", "keep curve c shift 1 2", "keep leads l 1 1 0",
    "keep leads l shift 1", "keep leads l " + " ; ".join(["shift 1 1"] * 7), "keep machine m crank 0 1",
    "keep machine m 0 0", "keep leads l turn 0 0 1 1", "keep machine m fix 0 0 ;", "keep curve c 1 0 0 ; 1 1 0",
    "keep point p 0 0", "show curve", "show curve c c", "show curve c ", "show  curve c", "show line c", "show c",
    "show curve C", "show curve 1", "show curve abcdefghi", "show curve \u00e4", "show curve ", "show point p",
    "stand m x", "stand m None", "stand m 1/0", "stand m 2/4", "stand m 01", "stand m 1@2", "stand m ", "stand m  1",
    "stand M 1", "stand m 1 ", "stand 1", "stand abcdefghi 1", "stand m 1 1 1 1 1 1 1", "stand m" + " none" * 7,
    "stand m 1 1 1 1 1 1 x", "stand nobody x", "stand nobody 1 1 1 1 1 1 1", "stand m 1 1 1 1 1 1 1 1", "stand m ; 1",
    "led l", "led l 0", "led l 0 0 0", "led l 0  0", "led l 0 0 ", "led l x y", "led l 1@4 0", "led l 1@2 1@3",
    "led L 0 0", "led 0 0", "led nobody 0", "led nobody x y", "led l 1/1 0", "led abcdefghi 0 0", "back l",
    "back l b c", "back l B", "back L b", "back l ", "back  l b", "back l abcdefghi", "back l 1", "back nobody B",
    "back l b ", "drawn l c", "drawn l c d e", "drawn l c D", "drawn L c d", "drawn l C d", "drawn l c ",
    "drawn nobody c D", "drawn l nobody 1", "drawn l  c d", "drawn abcdefghi c d", "kind", "kind C", "kind c c",
    "kind c ", "kind  c", "kind 1", "kind abcdefghi", "kind curve c", "on c", "on c 1", "on c 1 1 1", "on c x 1",
    "on C 1 1", "on c 1@2 1@3", "on c 1@4 1", "on nobody x 1", "on c 1 1 ", "on  c 1 1",
)

NO_NAMES = (
    "show machine l", "show leads m", "show curve m", "show curve nobody", "show machine c", "stand nobody",
    "stand nobody 1", "stand l 1", "stand c none", "stand nobody 1 1 1 1 1 1", "led m 0 0", "led c 0 0",
    "led nobody 1@2 0", "back m b", "back c b", "back nobody b", "back nobody nobody", "drawn m c d", "drawn l m d",
    "drawn nobody c d", "drawn l nobody d", "drawn c l d", "drawn nobody nobody nobody", "drawn l l d", "kind m",
    "kind l", "kind nobody", "on m 1 1", "on l 1 1", "on nobody 1 1", "on nobody 1@2 1",
)

NO_MACHINES = (
    "stand m", "stand m 1 1", "stand m none none", "stand m 1 1 1 1 1 1", "stand still 1", "stand still none",
    "stand six", "stand six 1 1 1 1 1",
)


def some_desk():
    desk = Desk()
    for line in (
        f"keep machine m {RODS}", "keep machine still fix 0 0", "keep machine six fix 0 0" + " ; crank 0 1" * 6,
        "keep machine stuck fix 0 0 ; fix 9 0 ; crank 0 2 ; pair 2 1 1 1 0",
        "keep machine one fix 0 0 ; fix 0 0 ; pair 0 1 1 1 0",
        "keep machine unlike fix 0 0 ; fix 1 0 ; pair 0 1 1 1 0 ; pair 0 2 1 1 0",
        "keep machine likes fix 0 0 ; fix 1 0 ; pair 0 1 1 1 0 ; pair 0 1 2 2 0 ; like 2 3 1 1",
        "keep leads l shift 1 2", "keep leads i invert 1 2 3", "keep curve c 1 2 0 ; 1 0 2 ; -2 0 0",
    ):
        desk.say(line)
    return desk


class DeskRefusalTest(RefusalCase):

    def assert_all_refused(self, error, lines):
        desk = some_desk()
        before = [desk.say(line) for line in LOOKS]
        for line in lines:
            with self.subTest(line):
                self.assert_refused(error, desk.say, line)
        self.assertEqual([desk.say(line) for line in LOOKS], before)

    def test_no_such_line(self):
        self.assert_all_refused(BadNote, NO_LINES)

    def test_no_such_line_ahead_of_no_such_name(self):
        # On a desk that keeps nothing each name is missing, too.
        desk = Desk()
        for line in NO_LINES:
            self.assert_refused(BadNote, desk.say, line)
        for kind in ("machine", "leads", "curve"):
            self.assertEqual(desk.say(f"names {kind}"), "")

    def test_no_such_name(self):
        self.assert_all_refused(NoName, NO_NAMES)

    def test_another_count_of_drives(self):
        self.assert_all_refused(NoMachine, NO_MACHINES)

    def test_a_count_of_drives_that_no_machine_has_goes_first(self):
        desk = some_desk()
        self.assert_refused(BadNote, desk.say, "stand still" + " 1" * 7)
        self.assert_refused(BadNote, desk.say, "stand six" + " 1" * 7)
        self.assert_refused(NoMachine, desk.say, "stand still" + " 1" * 6)
        self.assertEqual(desk.say("stand six" + " 0" * 6), "0 0" + " ; 1 0" * 6)

    def test_a_count_of_drives_ahead_of_what_refuses(self):
        desk = some_desk()
        self.assert_refused(NoMachine, desk.say, "stand stuck")
        self.assert_refused(NoMachine, desk.say, "stand stuck 1 1")
        self.assert_refused(NoMachine, desk.say, "stand one 1")
        self.assert_refused(NoMachine, desk.say, "stand unlike none")
        self.assert_refused(BadNote, desk.say, "stand stuck 1 x")

    def test_what_is_asked_refuses(self):
        desk = some_desk()
        before = [desk.say(line) for line in LOOKS]
        self.assertEqual(self.assert_refused(Stuck, desk.say, "stand stuck 1").step, 3)
        self.assertEqual(self.assert_refused(Stuck, desk.say, "stand one").step, 2)
        self.assert_refused(NoField, desk.say, "stand unlike")
        self.assert_refused(NoField, desk.say, "stand likes")
        self.assert_refused(NoQuotient, desk.say, "led i 1 2")
        self.assertEqual([desk.say(line) for line in LOOKS], before)

    def test_what_is_refused_keeps_the_elder_one(self):
        desk = some_desk()
        self.assert_refused(BadNote, desk.say, "keep curve c 1 1")
        self.assert_refused(BadNote, desk.say, "keep leads l grow 0 0 0")
        self.assert_refused(BadNote, desk.say, "keep machine m fix 0")
        self.assert_refused(NoName, desk.say, "back nobody l")
        self.assert_refused(NoName, desk.say, "drawn nobody c c")
        self.assert_refused(NoName, desk.say, "drawn l nobody c")
        self.assert_refused(NoName, desk.say, "drawn l nobody nobody")
        self.assertEqual([desk.say(line) for line in ("show curve c", "show leads l", "show machine m", "names curve")],
                         ["1 2 0 ; 1 0 2 ; -2 0 0", "shift 1 2", RODS, "c"])

    def test_what_is_no_text(self):
        desk = some_desk()
        before = [desk.say(line) for line in LOOKS]
        chance = random.Random(107)
        things = [thing for thing in STRANGE if type(thing) is not str]
        things += [["names machine"], ("names", "machine"), {"names": "machine"}, nested(20, "names machine"), [], {}]
        things += [thing for thing in [anything(chance, 4) for turn in range(200)] if type(thing) is not str]
        for thing in things:
            handed = copy.deepcopy(thing)
            self.assert_refused(BadNote, desk.say, thing)
            self.assertEqual(thing, handed)
        self.assertEqual([desk.say(line) for line in LOOKS], before)

    def test_lines_by_chance(self):
        # Right lines with some words swapped: a text is answered, or a refusal of the program's own.
        chance = random.Random(108)
        words = ("keep show names stand led back drawn kind on machine leads curve m l c i six nobody 0 1 1/2 -3 none fix"
                 " shift crank ; 1@2 0@4 x abcdefghi").split() + [""]
        right = [line.split(" ") for line in LOOKS + (
            "stand six 0 0 0 0 0 0", "led l 1 1/2", "back l i", "drawn i c d", "kind c", "on c 1 1", "keep curve c 1 1 0",
            "keep leads l shift 1 2 ; invert 0 0 1", "keep machine m fix 0 0 ; crank 0 1")]
        desk = some_desk()
        seen = {True: 0, False: 0}
        for turn in range(4000):
            line = [chance.choice(words) if chance.random() < 0.2 else word for word in chance.choice(right)]
            line[len(line):] = [chance.choice(words)] if chance.random() < 0.1 else []
            try:
                self.assertIs(type(desk.say(" ".join(line))), str)
                seen[True] += 1
            except RodError:
                seen[False] += 1
        self.assertGreater(min(seen.values()), 1000)


if __name__ == "__main__":
    unittest.main()
