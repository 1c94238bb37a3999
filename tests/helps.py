"""What several tests need: numbers made another way than the program makes them."""

import unittest
from fractions import Fraction
from math import gcd, isqrt

from hingedraw.errors import RodError

STRANGE = (
    -1, 0, 1, 2, 7, 9, 10 ** 60, True, False, None, "", "a", "01", "fix", [], (), {}, (0, 1), (1, 1), (2, 2), (-1, 2),
    (1, 0),
    (1, -1), (True, 1), (1, True), (0, 1, 2), (0,), [0, 1], {0: 1}, ((0, 1), (0, 1)), ((0, 1, (1, 1)),),
    ("fix", (0, 1), (0, 1)),
)


class RefusalCase(unittest.TestCase):

    def assert_refused(self, error, asked, *given):
        with self.assertRaises(RodError) as caught:
            asked(*given)
        self.assertIs(type(caught.exception), error)
        return caught.exception


def pair(value):
    """The tuple that stands for a Fraction."""
    value = Fraction(value)
    return (value.numerator, value.denominator)


def number(part, portion=0, base=2):
    """The root number of part + portion * root(base), base no square."""
    portion = Fraction(portion)
    under = portion * portion * Fraction(base)
    return (pair(part), pair(-under if portion < 0 else under))


def looks_whole(thing):
    return type(thing) is int


def looks_like_fraction(thing):
    if type(thing) is not tuple or len(thing) != 2:
        return False
    if not (looks_whole(thing[0]) and looks_whole(thing[1])):
        return False
    return thing[1] > 0 and gcd(thing[0], thing[1]) == 1


def is_square(whole):
    return isqrt(whole) ** 2 == whole


def looks_like_number(thing):
    if type(thing) is not tuple or len(thing) != 2:
        return False
    if not (looks_like_fraction(thing[0]) and looks_like_fraction(thing[1])):
        return False
    top, bottom = thing[1]
    return top == 0 or not (is_square(abs(top)) and is_square(bottom))


def sixty_figures(chance):
    return chance.choice((-1, 1)) * chance.randrange(10 ** 59, 10 ** 60)


def great_fraction(chance):
    return Fraction(sixty_figures(chance), sixty_figures(chance))


def small_fraction(chance):
    return Fraction(chance.randint(-12, 12), chance.randint(1, 9))


def plain(x, y):
    """The plain point of two Fractions."""
    return (number(x), number(y))


def rooted(x, y, base=2):
    """The point of two (part, portion), how many times the root of base goes with part."""
    return (number(x[0], x[1], base), number(y[0], y[1], base))


def nested(deep, within):
    for turn in range(deep):
        within = ([within], (within,), {"in": within}, (within, within))[turn % 4]
    return within


def anything(chance, deep):
    kind = chance.randrange(9 if deep else 4)
    if kind == 0:
        return chance.choice((-1, 0, 1, 2, 3, 4, 9, -4, 10 ** 60, -(10 ** 60)))
    if kind == 1:
        return chance.choice((True, False, None))
    if kind == 2:
        return chance.choice(("", "a", "01", "ab", "(1, 2)"))
    if kind == 3:
        return pair(small_fraction(chance))
    many = chance.choice((0, 1, 2, 2, 2, 2, 3))
    if kind == 4:
        return [anything(chance, deep - 1) for turn in range(many)]
    if kind == 5:
        return {chance.choice((0, 1, "x", (1, 2), None, True)): anything(chance, deep - 1) for turn in range(many)}
    return tuple(anything(chance, deep - 1) for turn in range(many))


def variants(thing):
    """The thing with one place of it changed: another value there, a part fewer or more, a list or a dict."""
    yield from STRANGE
    if type(thing) is int:
        yield from (thing - 1, thing + 1, -thing)
    if type(thing) is tuple:
        yield list(thing)
        yield dict(enumerate(thing))
        yield thing + (0,)
        yield tuple(reversed(thing))
        for at, part in enumerate(thing):
            yield thing[:at] + thing[at + 1:]
            yield thing[:at] + (part,) + thing[at:]
            for other in variants(part):
                yield thing[:at] + (other,) + thing[at + 1:]


def rank(rows):
    """How many of the rows of Fractions are independent."""
    rows = [[Fraction(cell) for cell in row] for row in rows]
    many = 0
    for column in range(len(rows[0]) if rows else 0):
        lead = next((row for row in rows[many:] if row[column] != 0), None)
        if lead is not None:
            rows.remove(lead)
            rows = [[cell - row[column] / lead[column] * above for cell, above in zip(row, lead)] if at >= many else row
                    for at, row in enumerate(rows)]
            rows.insert(many, lead)
            many += 1
    return many


def worth(fraction):
    return Fraction(fraction[0], fraction[1])


def spot(point):
    """The two Fractions of a plain point."""
    for coordinate in point:
        assert coordinate[1] == (0, 1)
    return (worth(point[0][0]), worth(point[1][0]))


def some_linkage(chance, most=12):
    many = chance.randint(1, 8)
    fixed = tuple(sorted(chance.sample(range(many), chance.randint(0, min(many, 3)))))
    joints = [(one, other) for one in range(many) for other in range(one + 1, many)]
    chosen = chance.sample(joints, chance.randint(0, min(len(joints), most)))
    return (many, fixed, tuple((one, other, (chance.randint(1, 9), 1)) for one, other in chosen))


def some_place(chance, many, reach=4):
    """Whole coordinates, so that joints often lie on one point or in one line."""
    return tuple(plain(chance.randint(-reach, reach), chance.randint(-reach, reach)) for turn in range(many))


def great_place(chance, many):
    return tuple(plain(great_fraction(chance), great_fraction(chance)) for turn in range(many))


def rods_of(*lengths):
    """The four rods of four Fractions."""
    return tuple(pair(length) for length in lengths)


def drive_end(length, drive):
    """Where a crank about (0, 0) ends, as two Fractions, by a Fraction or None."""
    if drive is None:
        return (-Fraction(length), Fraction(0))
    below = 1 + Fraction(drive) ** 2
    return (length * (1 - Fraction(drive) ** 2) / below, length * 2 * Fraction(drive) / below)


def root_number(part, square, turned=False):
    """The root number of part and the root of a square, or part less it."""
    square = Fraction(square)
    if is_square(square.numerator) and is_square(square.denominator):
        root = Fraction(isqrt(square.numerator), isqrt(square.denominator))
        return number(part - root if turned else part + root)
    return number(part, -1 if turned else 1, square)


def looks_like_curve(thing):
    if type(thing) is not dict:
        return False
    for key, fraction in thing.items():
        if type(key) is not tuple or len(key) != 2 or not all(looks_whole(power) and power >= 0 for power in key):
            return False
        if not looks_like_fraction(fraction) or fraction[0] == 0:
            return False
    return True


def looks_normal(curve):
    tops = [fraction[0] for fraction in curve.values()]
    wholes = all(fraction[1] == 1 for fraction in curve.values())
    return looks_like_curve(curve) and len(curve) > 0 and wholes and gcd(*tops) == 1 and curve[max(curve)][0] > 0


def curve(sums):
    """The curve of a dict of numbers, noughts left out."""
    return {key: pair(value) for key, value in sums.items() if value != 0}


def some_curve(chance, most=3, kind=small_fraction):
    keys = [(i, j) for i in range(most + 1) for j in range(most + 1 - i)]
    return curve({key: kind(chance) for key in chance.sample(keys, chance.randint(0, len(keys)))})


def side_at(told, x, y):
    """What the side of a curve comes to, by Fractions."""
    return sum((worth(fraction) * x ** i * y ** j for (i, j), fraction in told.items()), Fraction(0))


def turn_numbers(by):
    """Two Fractions whose squares are 1 together, by any Fraction."""
    return ((1 - by * by) / (1 + by * by), 2 * by / (1 + by * by))


LEAD_WORDS = ("shift", "grow", "turn", "mirror", "invert")


def some_lead(chance, word, kind=small_fraction):
    x, y, third = kind(chance), kind(chance), kind(chance) or Fraction(1, 3)
    if word == "shift":
        return (word, pair(x), pair(y))
    if word == "turn":
        p, q = turn_numbers(third.limit_denominator(10 ** 29))
        return (word, pair(x), pair(y), pair(p), pair(q))
    if word == "mirror" and x == y == 0:
        x = Fraction(1)
    return (word, pair(x), pair(y), pair(third))


def some_leads(chance, many=6, inverts=6, kind=small_fraction):
    told = []
    while len(told) < many:
        word = chance.choice(LEAD_WORDS)
        if word != "invert" or [lead[0] for lead in told].count("invert") < inverts:
            told.append(some_lead(chance, word, kind))
    return told
