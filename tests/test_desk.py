"""[91] The desk and its lines."""

import random
import unittest
from fractions import Fraction

from helps import curve, pair, plain, small_fraction, some_curve, some_leads
from hingedraw.curves import on_curve
from hingedraw.desk import Desk
from hingedraw.errors import NoQuotient
from hingedraw.leads import curve_led, kind_of, led, led_back
from hingedraw.machines import stand
from hingedraw.notes import curve_read, curve_text, leads_read, leads_text, machine_read, point_text

RODS = "fix 0 0 ; fix 4 0 ; crank 0 2 ; pair 2 1 20 16 0 ; like 2 3 1/2 0"
KINDS = ("machine", "leads", "curve")
TEXTS = {"machine": "fix 0 0", "leads": "shift 1 2", "curve": "1 1 0"}
OTHERS = {"machine": "fix 1 0", "leads": "grow 0 0 2", "curve": "1 0 1"}


def told(*lines):
    """What a desk answers to these, one behind the other."""
    desk = Desk()
    return [desk.say(line) for line in lines]


class KeepShowNamesTest(unittest.TestCase):

    def test_what_is_kept_is_shown(self):
        for kind in KINDS:
            self.assertEqual(told(f"keep {kind} a {TEXTS[kind]}", f"show {kind} a"), ["ok", TEXTS[kind]])
        self.assertEqual(told(f"keep machine rods {RODS}", "show machine rods"), ["ok", RODS])

    def test_a_curve_is_shown_as_it_was_kept(self):
        text = "-2/3 2 0 ; 4 1 1 ; 7/2 0 0"
        self.assertEqual(told(f"keep curve c {text}", "show curve c", "show curve c"), ["ok", text, text])

    def test_in_the_stead_of_an_elder_one(self):
        for kind in KINDS:
            self.assertEqual(
                told(f"keep {kind} a {TEXTS[kind]}", f"keep {kind} a {OTHERS[kind]}", f"show {kind} a", f"names {kind}"),
                ["ok", "ok", OTHERS[kind], "a"])

    def test_one_of_each_kind_by_one_name(self):
        desk = Desk()
        for kind in KINDS:
            desk.say(f"keep {kind} a {TEXTS[kind]}")
        for kind in KINDS:
            self.assertEqual(desk.say(f"show {kind} a"), TEXTS[kind])
            self.assertEqual(desk.say(f"names {kind}"), "a")
            desk.say(f"keep {kind} a {OTHERS[kind]}")
        for kind in KINDS:
            self.assertEqual(desk.say(f"show {kind} a"), OTHERS[kind])

    def test_names(self):
        for kind in KINDS:
            desk = Desk()
            self.assertEqual(desk.say(f"names {kind}"), "")
            for name in ("b", "a", "abcdefgh", "zz", "z", "b", "ab"):
                self.assertEqual(desk.say(f"keep {kind} {name} {TEXTS[kind]}"), "ok")
            self.assertEqual(desk.say(f"names {kind}"), "a ab abcdefgh b z zz")
            for other in KINDS:
                if other != kind:
                    self.assertEqual(desk.say(f"names {other}"), "")

    def test_words_of_lines_may_be_names(self):
        desk = Desk()
        for name in ("keep", "show", "names", "none", "machine", "leads", "curve", "on", "fix", "led", "kind"):
            desk.say(f"keep curve {name} 1 1 0")
            self.assertEqual(desk.say(f"show curve {name}"), "1 1 0")
            self.assertEqual(desk.say(f"kind {name}"), "line 1 0 0")

    def test_two_desks_beside_one_another(self):
        one, other = Desk(), Desk()
        one.say("keep curve a 1 1 0")
        self.assertEqual(other.say("names curve"), "")
        other.say("keep curve a 1 0 1")
        other.say("keep curve b 1 0 1")
        self.assertEqual((one.say("show curve a"), other.say("show curve a")), ("1 1 0", "1 0 1"))
        self.assertEqual((one.say("names curve"), other.say("names curve")), ("a", "a b"))


class StandTest(unittest.TestCase):

    def test_written_out(self):
        self.assertEqual(told(f"keep machine m {RODS}", "stand m 1")[1], "0 0 ; 4 0 ; 0 2 ; 4 4 ; 2 3")
        self.assertEqual(told("keep machine m fix 1/2 -3", "stand m")[1], "1/2 -3")
        self.assertEqual(told("keep machine m fix 0 0 ; crank 0 5/2", "stand m none")[1], "0 0 ; -5/2 0")
        self.assertEqual(told("keep machine m fix 0 0 ; crank 0 5", "stand m 1/2", "stand m -1/2", "stand m 0")[1:],
                         ["0 0 ; 3 4", "0 0 ; 3 -4", "0 0 ; 5 0"])
        self.assertEqual(told("keep machine m fix 0 0 ; fix 1 0 ; pair 0 1 1 1 0", "stand m")[1], "0 0 ; 1 0 ; 1/2 0@3/4")
        self.assertEqual(told("keep machine m fix 0 0 ; fix 1 0 ; pair 0 1 1 1 1", "stand m")[1], "0 0 ; 1 0 ; 1/2 0@-3/4")

    def test_many_cranks_in_their_order(self):
        desk = Desk()
        desk.say("keep machine m fix 0 0" + " ; crank 0 1" * 6)
        self.assertEqual(desk.say("stand m 0 1 none -1 0 none"), "0 0 ; 1 0 ; 0 1 ; -1 0 ; 0 -1 ; 1 0 ; -1 0")
        desk.say("keep machine m fix 0 0 ; crank 0 1 ; fix 5 5 ; crank 2 2")
        self.assertEqual(desk.say("stand m none 1"), "0 0 ; -1 0 ; 5 5 ; 5 7")

    def test_points_of_unlike_fields(self):
        text = "fix 0 0 ; fix 1 0 ; pair 0 1 1 1 0 ; pair 0 1 2 2 0"
        self.assertEqual(told(f"keep machine m {text}", "stand m")[1], "0 0 ; 1 0 ; 1/2 0@3/4 ; 1/2 0@7/4")

    def test_as_the_machine_stands(self):
        chance = random.Random(104)
        desk = Desk()
        desk.say(f"keep machine m {RODS}")
        for turn in range(20):
            drive = pair(Fraction(chance.randint(1, 9), chance.randint(9, 12)))
            word = f"{drive[0]}/{drive[1]}" if drive[1] > 1 else f"{drive[0]}"
            points = stand(machine_read(RODS), (drive,))
            self.assertEqual(desk.say(f"stand m {word}"), " ; ".join(point_text(point) for point in points))


class LedBackDrawnTest(unittest.TestCase):

    def test_led(self):
        desk = Desk()
        desk.say("keep leads l shift 1 2 ; grow 0 0 2")
        self.assertEqual(desk.say("led l 0 1/2"), "2 5")
        self.assertEqual(desk.say("led l 0@2 -2@1/2"), "2@8 0@2")
        desk.say("keep leads l invert 0 0 1")
        self.assertEqual(desk.say("led l 1@2 0"), "-1@2 0")

    def test_back(self):
        desk = Desk()
        desk.say("keep leads l shift 1 2 ; turn 0 0 3/5 4/5 ; grow 0 0 2")
        self.assertEqual(desk.say("back l b"), "ok")
        self.assertEqual(desk.say("show leads b"), "grow 0 0 1/2 ; turn 0 0 3/5 -4/5 ; shift -1 -2")
        self.assertEqual(desk.say("show leads l"), "shift 1 2 ; turn 0 0 3/5 4/5 ; grow 0 0 2")
        self.assertEqual(desk.say("names leads"), "b l")
        self.assertEqual(desk.say("led b " + desk.say("led l 1/2@3 -7")), "1/2@3 -7")

    def test_back_in_its_own_stead_and_anothers(self):
        desk = Desk()
        desk.say("keep leads l shift 1 2")
        desk.say("keep leads m grow 0 0 2")
        self.assertEqual([desk.say(line) for line in ("back l l", "show leads l", "back l m", "show leads m")],
                         ["ok", "shift -1 -2", "ok", "shift 1 2"])
        self.assertEqual(desk.say("show leads l"), "shift -1 -2")
        self.assertEqual(desk.say("names leads"), "l m")

    def test_drawn(self):
        desk = Desk()
        desk.say("keep leads l invert 0 0 1")
        desk.say("keep curve c 1 1 0 ; -1 0 0")
        self.assertEqual(desk.say("drawn l c d"), "ok")
        self.assertEqual(desk.say("show curve d"), "1 2 0 ; -1 1 0 ; 1 0 2")
        self.assertEqual(desk.say("show curve c"), "1 1 0 ; -1 0 0")
        self.assertEqual(desk.say("drawn l d c"), "ok")
        self.assertEqual((desk.say("show curve c"), desk.say("names curve")), ("1 1 0 ; -1 0 0", "c d"))
        self.assertEqual((desk.say("drawn l c c"), desk.say("show curve c")), ("ok", "1 2 0 ; -1 1 0 ; 1 0 2"))

    def test_a_number_alone_is_drawn(self):
        desk = Desk()
        desk.say("keep leads l invert 0 0 1 ; shift 1 1")
        desk.say("keep curve c -5/3 0 0")
        self.assertEqual([desk.say("drawn l c c"), desk.say("show curve c")], ["ok", "1 0 0"])

    def test_as_leads_lead(self):
        chance = random.Random(105)
        for turn in range(30):
            desk = Desk()
            leads, given = some_leads(chance, chance.randint(1, 3), 2), some_curve(chance) or curve({(1, 0): 2})
            desk.say("keep leads l " + leads_text(leads))
            desk.say("keep curve c " + curve_text(given))
            desk.say("drawn l c d")
            desk.say("back l b")
            self.assertEqual(curve_read(desk.say("show curve d")), curve_led(leads, given))
            self.assertEqual(leads_read(desk.say("show leads b")), led_back(leads))
            point = plain(small_fraction(chance), small_fraction(chance))
            text = point_text(point)
            try:
                there = desk.say(f"led l {text}")
            except NoQuotient:
                continue
            self.assertEqual(there, point_text(led(leads, point)))
            self.assertEqual(desk.say(f"led b {there}"), text)
            self.assertEqual(desk.say(f"on c {text}"), desk.say(f"on d {there}"))


class KindOnTest(unittest.TestCase):

    def test_kind(self):
        for text, answer in (
            ("1/2 1 0 ; 1/3 0 0", "line 3 0 2"), ("-3 0 1 ; 2 0 0", "line 0 3 -2"), ("2 1 0 ; -4 0 1", "line 1 -2 0"),
            ("1 2 0 ; 1 0 2 ; -1 0 0", "circle 0 0 1"), ("2 2 0 ; 2 0 2 ; -1 0 0", "circle 0 0 1/2"),
            ("3 2 0 ; 1 1 0 ; 3 0 2", "circle -1/6 0 1/36"), ("1 2 0 ; 1 0 2", "none"), ("1 2 0 ; 1 0 2 ; 1 0 0", "none"),
            ("1 1 1", "none"), ("5 0 0", "none"), ("1 3 0", "none"), ("1 9 9", "none"),
        ):
            self.assertEqual(told(f"keep curve c {text}", "kind c"), ["ok", answer])

    def test_on(self):
        desk = Desk()
        desk.say("keep curve c 1 2 0 ; 1 0 2 ; -2 0 0")
        for point, answer in (
            ("1 1", "on"), ("1 -1", "on"), ("1 0", "off"), ("7/5 1/5", "on"), ("0@2 0", "on"), ("0 0@-2", "on"),
            ("0@8/5 0@-2/5", "on"), ("0@8/5 0@-1/10", "off"), ("0@1/2 0@2", "off"), ("0 0", "off"), ("1/2 0@7/4", "on"),
        ):
            self.assertEqual(desk.say(f"on c {point}"), answer, point)

    def test_as_curves_tell(self):
        chance = random.Random(106)
        for turn in range(40):
            desk = Desk()
            given = some_curve(chance, 2) or curve({(0, 1): 2})
            desk.say("keep curve c " + curve_text(given))
            point = plain(small_fraction(chance), small_fraction(chance))
            self.assertEqual(desk.say("on c " + point_text(point)) == "on", on_curve(given, point))
            kind = kind_of(given)
            self.assertEqual(desk.say("kind c").split(" ")[0], "none" if kind is None else kind[0])


class AnswersTest(unittest.TestCase):

    def test_the_same_answer_again(self):
        desk = Desk()
        lines = [f"keep machine m {RODS}", "keep leads l invert 1 1 2 ; shift 1 2", "keep curve c 1 2 0 ; 1 0 2 ; -2 0 0"]
        for line in lines:
            desk.say(line)
        asked = ["stand m 1/2", "led l 5 7", "kind c", "on c 1 1", "show machine m", "show leads l", "show curve c",
                 "names machine", "names leads", "names curve"]
        first = [desk.say(line) for line in asked]
        self.assertTrue(all(type(answer) is str for answer in first))
        self.assertEqual([desk.say(line) for line in reversed(asked)], list(reversed(first)))
        other = Desk()
        for line in reversed(lines):
            other.say(line)
        self.assertEqual([other.say(line) for line in asked], first)


if __name__ == "__main__":
    unittest.main()
