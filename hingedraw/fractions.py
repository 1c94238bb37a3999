"""Fractions: tuples (top, bottom) in lowest terms, the bottom from 1 on."""

from hingedraw.errors import NoQuotient

NOUGHT = (0, 1)
ONE = (1, 1)


def is_whole(thing):
    # Python counts True and False as ints; here they are no numbers.
    return isinstance(thing, int) and not isinstance(thing, bool)


def is_fraction(thing):
    if not isinstance(thing, tuple) or len(thing) != 2:
        return False
    if not is_whole(thing[0]) or not is_whole(thing[1]):
        return False
    return thing[1] >= 1 and common_divisor(thing[0], thing[1]) == 1


def is_above_nought(thing):
    return is_fraction(thing) and thing[0] > 0


def common_divisor(one, other):
    while other != 0:
        rest = one % other
        one = other
        other = rest
    return abs(one)


def ratio(top, bottom):
    # The words name no numbers: Python refuses to write very long ones.
    if bottom == 0:
        raise NoQuotient("there is no quotient by 0")
    shared = common_divisor(top, bottom)
    if bottom < 0:
        shared = -shared
    return (top // shared, bottom // shared)


def plus(one, other):
    return ratio(one[0] * other[1] + other[0] * one[1], one[1] * other[1])


def minus(one, other):
    return ratio(one[0] * other[1] - other[0] * one[1], one[1] * other[1])


def times(one, other):
    return ratio(one[0] * other[0], one[1] * other[1])


def over(one, other):
    return ratio(one[0] * other[1], one[1] * other[0])


def negative(one):
    return (-one[0], one[1])


def without_sign(one):
    return (abs(one[0]), one[1])


def whole_root(number):
    if number == 0:
        return 0
    # Newton's steps fall until they reach the root, if they begin above it.
    guess = 1 << ((number.bit_length() + 1) // 2)
    better = (guess + number // guess) // 2
    while better < guess:
        guess = better
        better = (guess + number // guess) // 2
    return guess


def square_root_or_none(number):
    root = whole_root(number)
    return root if root * root == number else None


def root_in(one):
    # In lowest terms a fraction is a square just where top and bottom both are.
    top = square_root_or_none(one[0])
    if top is None:
        return None
    bottom = square_root_or_none(one[1])
    if bottom is None:
        return None
    return (top, bottom)
