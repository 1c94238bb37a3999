"""[40] Machines: what is one."""

import random
import unittest

from helps import anything, looks_like_fraction, looks_whole, nested, variants
from hingedraw.machines import is_machine

NOUGHT, ONE, HALF = (0, 1), (1, 1), (1, 2)
FIX = ("fix", NOUGHT, NOUGHT)
FAR = ("fix", (3, 1), (-1, 7))
CRANK = ("crank", 0, ONE)
PAIR = ("pair", 2, 1, (9, 1), (19, 2), 0)
LIKE = ("like", 2, 3, HALF, (-1, 4))

RIGHT = (
    (FIX,), (FIX, FAR), (FIX, CRANK), (FIX, FIX), (FIX, FAR, CRANK), (FIX, FAR, CRANK, PAIR),
    (FIX, FAR, CRANK, PAIR, LIKE),
    (FIX, CRANK, CRANK, ("crank", 0, HALF), ("pair", 1, 2, ONE, ONE, 1)),
    (FIX, CRANK, FAR, ("crank", 2, (10 ** 59, 3))),
    (FIX, FAR, ("like", 1, 0, NOUGHT, NOUGHT)), (FIX, FAR, ("like", 0, 1, (-5, 3), NOUGHT)),
    (FIX, FAR, ("pair", 1, 0, HALF, ONE, 1)),
    (FIX, FAR, CRANK, PAIR, LIKE, ("pair", 4, 0, ONE, ONE, 0), ("like", 5, 4, ONE, ONE)), (FIX,) * 7,
    (FIX,) + (CRANK,) * 6,
    (FIX, FAR, ("like", 0, 1, HALF, HALF), ("like", 2, 0, HALF, HALF), ("like", 3, 2, HALF, HALF)),
)

# Behind two fixed joints and a crank's end, one thing wrong each.
WRONG_STEPS = (
    # joints not made yet, the step's own, below 0, one twice, truths
    ("crank", 3, ONE), ("crank", 4, ONE), ("crank", -1, ONE), ("crank", -3, ONE), ("crank", True, ONE),
    ("crank", False, ONE),
    ("pair", 3, 1, ONE, ONE, 0), ("pair", 1, 3, ONE, ONE, 0), ("pair", 0, 9, ONE, ONE, 0), ("pair", -1, 1, ONE, ONE, 0),
    ("pair", 1, -1, ONE, ONE, 0), ("pair", 1, 1, ONE, ONE, 0), ("pair", True, 2, ONE, ONE, 0),
    ("pair", 2, False, ONE, ONE, 0),
    ("like", 3, 1, ONE, ONE), ("like", 1, 3, ONE, ONE), ("like", 0, 9, ONE, ONE), ("like", -1, 1, ONE, ONE),
    ("like", 1, -1, ONE, ONE),
    ("like", 2, 2, ONE, ONE), ("like", True, 2, ONE, ONE), ("like", 2, False, ONE, ONE), ("like", None, 1, ONE, ONE),
    ("like", "0", 1, ONE, ONE), ("pair", (0, 1), 1, ONE, ONE, 0), ("crank", (0, 1), ONE), ("crank", "0", ONE),
    # a crank about a joint that is none of a fix
    ("crank", 2, ONE),
    # lengths and squares of 0 or below, or not in lowest terms, or no fractions
    ("crank", 0, NOUGHT), ("crank", 0, (-1, 1)), ("crank", 0, (2, 2)), ("crank", 0, (4, 6)), ("crank", 0, (1, 0)),
    ("crank", 0, (1, -1)),
    ("crank", 0, 1), ("crank", 0, (True, 1)), ("crank", 0, (1, True)), ("crank", 0, [1, 1]),
    ("crank", 0, (ONE, NOUGHT)), ("crank", 0, None),
    ("pair", 0, 1, NOUGHT, ONE, 0), ("pair", 0, 1, ONE, NOUGHT, 0), ("pair", 0, 1, (-1, 2), ONE, 0),
    ("pair", 0, 1, ONE, (-1, 2), 0),
    ("pair", 0, 1, (2, 4), ONE, 0), ("pair", 0, 1, ONE, (3, 3), 0), ("pair", 0, 1, 1, ONE, 0),
    ("pair", 0, 1, ONE, None, 0),
    ("fix", (2, 4), NOUGHT), ("fix", NOUGHT, (2, 4)), ("fix", (0, 2), NOUGHT), ("fix", NOUGHT, (1, -1)), ("fix", 0, 0),
    ("fix", NOUGHT, (False, 1)),
    ("fix", (ONE, NOUGHT), (ONE, NOUGHT)), ("fix", "01", NOUGHT), ("like", 0, 1, (2, 4), ONE),
    ("like", 0, 1, ONE, (0, 3)), ("like", 0, 1, 1, ONE),
    ("like", 0, 1, ONE, None), ("like", 0, 1, (1, 0), ONE), ("like", 0, 1, ONE, (1, 1, 1)),
    # a side that is none
    ("pair", 0, 1, ONE, ONE, 2), ("pair", 0, 1, ONE, ONE, -1), ("pair", 0, 1, ONE, ONE, True),
    ("pair", 0, 1, ONE, ONE, False),
    ("pair", 0, 1, ONE, ONE, None), ("pair", 0, 1, ONE, ONE, "0"), ("pair", 0, 1, ONE, ONE, (0, 1)),
    # another word
    ("", NOUGHT, NOUGHT), ("Fix", NOUGHT, NOUGHT), ("fixed", NOUGHT, NOUGHT), ("cranks", 0, ONE), ("crank ", 0, ONE),
    (0, NOUGHT, NOUGHT),
    (None, NOUGHT, NOUGHT), (["fix"], NOUGHT, NOUGHT), (("fix",), NOUGHT, NOUGHT), ({"fix": 1}, NOUGHT, NOUGHT),
    ("pairs", 0, 1, ONE, ONE, 0),
    ("pair", 0, 1, HALF, HALF), ("like", 0, 1, ONE, ONE, 0), ("fix", 0, ONE), ("crank", NOUGHT, NOUGHT),
    # a part fewer or more
    ("fix",), ("fix", NOUGHT), ("fix", NOUGHT, NOUGHT, NOUGHT), ("crank",), ("crank", 0), ("crank", 0, ONE, ONE),
    ("pair",), ("pair", 0, 1, ONE, ONE),
    ("pair", 0, 1, ONE, ONE, 0, 0), ("like",), ("like", 0, 1, ONE), ("like", 0, 1, ONE, ONE, ONE), (), (NOUGHT, NOUGHT),
    # a list, other kinds
    ["fix", NOUGHT, NOUGHT], ["crank", 0, ONE], ["pair", 0, 1, ONE, ONE, 0], ["like", 0, 1, ONE, ONE], "fix", None,
    True, 0, [], {}, "",
    {"fix": NOUGHT}, (("fix", NOUGHT, NOUGHT),),
)


def looks_like_step(step, ahead):
    """Ahead: whether a fix made it, for each joint made ahead."""
    if type(step) is not tuple or not step or type(step[0]) is not str:
        return False
    # f a fraction, g one above 0, j a joint, c a crank's middle, s a side
    form = {"fix": "ff", "crank": "cg", "pair": "jjggs", "like": "jjff"}.get(step[0])
    if form is None or len(form) != len(step) - 1:
        return False
    for sign, part in zip(form, step[1:]):
        if sign in "fg" and (not looks_like_fraction(part) or sign == "g" and part[0] <= 0):
            return False
        if sign in "jc" and (not looks_whole(part) or part not in range(len(ahead)) or sign == "c" and not ahead[part]):
            return False
        if sign == "s" and (not looks_whole(part) or part not in (0, 1)):
            return False
    return not form.startswith("jj") or step[1] != step[2]


def looks_like_machine(thing):
    if type(thing) is not tuple or len(thing) not in range(1, 8):
        return False
    ahead = []
    for step in thing:
        if not looks_like_step(step, ahead):
            return False
        ahead.append(step[0] == "fix")
    return True


class IsMachineTest(unittest.TestCase):

    def test_right_ones(self):
        for thing in RIGHT:
            self.assertIs(is_machine(thing), True, thing)

    def test_one_to_seven_steps(self):
        steps = (FIX, FAR, CRANK, PAIR, LIKE, ("like", 4, 3, ONE, HALF), ("pair", 0, 1, ONE, ONE, 1))
        for many in range(1, 8):
            self.assertIs(is_machine(steps[:many]), True)
        self.assertIs(is_machine(()), False)
        for more in (FIX, CRANK, PAIR, LIKE):
            self.assertIs(is_machine(steps + (more,)), False)
        self.assertIs(is_machine((FIX,) * 8), False)
        self.assertIs(is_machine((FIX,) * 9), False)

    def test_a_step_that_is_wrong(self):
        for step in WRONG_STEPS:
            self.assertIs(is_machine((FIX, FAR, CRANK, step)), False, step)
            self.assertIs(is_machine((FIX, FAR, CRANK, step, FIX)), False, step)
            self.assertIs(is_machine((step,)), False, step)

    def test_joints_made_later(self):
        for step in (CRANK, ("pair", 1, 2, ONE, ONE, 0), ("like", 1, 2, ONE, ONE)):
            self.assertIs(is_machine((FIX, FIX, FIX, step)), True)
            self.assertIs(is_machine((step, FIX, FIX, FIX)), False)
        self.assertIs(is_machine((FIX, ("pair", 1, 2, ONE, ONE, 0), FIX)), False)
        self.assertIs(is_machine((FIX, ("like", 0, 1, ONE, ONE))), False)
        self.assertIs(is_machine((FIX, FIX, ("like", 0, 1, ONE, ONE), ("crank", 2, ONE))), False)
        self.assertIs(is_machine((FIX, FIX, ("pair", 0, 1, ONE, ONE, 0), ("crank", 2, ONE))), False)
        self.assertIs(is_machine((FIX, CRANK, ("crank", 1, ONE))), False)

    def test_one_place_changed(self):
        seen = {True: 0, False: 0}
        for right in RIGHT:
            for thing in variants(right):
                told = is_machine(thing)
                self.assertIs(told, looks_like_machine(thing), thing)
                seen[told] += 1
        self.assertGreater(min(seen.values()), 200)

    def test_anything(self):
        chance = random.Random(90)
        for turn in range(5000):
            thing = anything(chance, chance.randrange(1, 6))
            for within in (thing, (thing,), (FIX, thing), (FIX, (thing, 0, ONE)), (FIX, ("crank", thing, ONE)),
                           (FIX, ("crank", 0, thing)),
                           (FIX, FAR, ("pair", 0, 1, ONE, ONE, thing)), (("fix", thing, thing),),
                           (FIX, FAR, ("like", thing, 1, ONE, thing))):
                self.assertIs(is_machine(within), looks_like_machine(within), within)

    def test_twenty_deep(self):
        for within in (0, True, None, "fix", (1, 1), FIX):
            for deep in range(0, 21):
                thing = nested(deep, within)
                for built in (thing, (thing,), (FIX, thing), ((thing, NOUGHT, NOUGHT),), (FIX, ("crank", thing, ONE))):
                    self.assertIs(is_machine(built), looks_like_machine(built))

    def test_other_kinds(self):
        for thing in (None, True, False, 0, 1, "", "fix", [], [FIX], {}, {0: FIX}, FIX, (FIX, None), (FIX, [FIX])):
            self.assertIs(is_machine(thing), False, thing)


if __name__ == "__main__":
    unittest.main()
