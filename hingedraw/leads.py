"""Leads: shifts, grows, turns, mirrors and inverts; points and curves that are led by them, and kinds of curves."""

from hingedraw.curves import common_bottom, degree_of, normal, normal_of_tops, tops_over
from hingedraw.fractions import NOUGHT, ONE, minus, negative, over, plus, times
from hingedraw.insets import set_in, turned_over
from hingedraw.points import moved, plain_way, product_of_ways
from hingedraw.quotients import point_of, quotient_inverted, quotient_moved, quotient_of, wholes_over
from hingedraw.roots import field_base

FRACTIONS_BEHIND = {"shift": 2, "grow": 3, "turn": 4, "mirror": 3, "invert": 3}
ORIGIN = ((0, 1), (0, 1))


def is_lead(thing):
    # Asked of a tuple of a text and fractions alone.
    if FRACTIONS_BEHIND.get(thing[0]) != len(thing) - 1:
        return False
    if thing[0] == "shift":
        return True
    if thing[0] == "turn":
        return product_of_ways(thing[3:], thing[3:]) == ONE
    if thing[0] == "mirror":
        return thing[1][0] != 0 or thing[2][0] != 0
    return thing[3][0] != 0


def back(lead):
    if lead[0] == "shift":
        return ("shift", negative(lead[1]), negative(lead[2]))
    if lead[0] == "grow":
        return ("grow", lead[1], lead[2], over(ONE, lead[3]))
    if lead[0] == "turn":
        return ("turn", lead[1], lead[2], lead[3], negative(lead[4]))
    return lead


def led_back(leads):
    return [back(lead) for lead in reversed(leads)]


def turned(way, by):
    return (minus(times(by[0], way[0]), times(by[1], way[1])), plus(times(by[1], way[0]), times(by[0], way[1])))


def flat(lead):
    # A lead that is no invert as a tuple (by, shift, mirrors): where it mirrors, y is first turned to less y; then the
    # way from (0, 0) is turned and grown as from (1, 0) to by, and shifted.
    if lead[0] == "shift":
        return ((ONE, NOUGHT), lead[1:], False)
    if lead[0] == "mirror":
        across = lead[1:3]
        square = product_of_ways(across, across)
        by = moved(ORIGIN, turned(across, across), over((-1, 1), square))
        return (by, moved(ORIGIN, across, over(times((-2, 1), lead[3]), square)), True)
    by = (lead[3], NOUGHT) if lead[0] == "grow" else lead[3:]
    return (by, plain_way(turned(lead[1:3], by), lead[1:3]), False)


def led(leads, point):
    base = field_base(point[0], point[1])
    quotient = quotient_of(point, base)
    for lead in leads:
        if lead[0] == "invert":
            quotient = quotient_inverted(quotient, lead[1:3], lead[3])
        else:
            quotient = quotient_moved(quotient, flat(lead))
    return point_of(quotient, base)


def tops_moved(lead, tops):
    found = flat(back(lead))
    bottom = common_bottom(found[0] + found[1])
    by = wholes_over(found[0], bottom)
    shift = wholes_over(found[1], bottom)
    sign = -1 if found[2] else 1
    x = {(1, 0): by[0], (0, 1): -sign * by[1], (0, 0): shift[0]}
    y = {(1, 0): by[1], (0, 1): sign * by[0], (0, 0): shift[1]}
    return set_in(tops, x, y, bottom)


def tops_inverted(lead, tops):
    bottom = common_bottom(lead[1:3])
    middle = wholes_over(lead[1:3], bottom)
    from_middle = set_in(tops, {(1, 0): bottom, (0, 0): middle[0]}, {(0, 1): bottom, (0, 0): middle[1]}, bottom)
    told = turned_over(from_middle, lead[3])
    return set_in(told, {(1, 0): bottom, (0, 0): -middle[0]}, {(0, 1): bottom, (0, 0): -middle[1]}, bottom)


def curve_led(leads, curve):
    told = normal(curve)
    for lead in leads:
        tops = tops_over(told, 1)
        told = normal_of_tops(tops_inverted(lead, tops) if lead[0] == "invert" else tops_moved(lead, tops))
    return told


def circle_of(curve):
    # Asked of degree two alone: so squares are there where no x y is.
    grown = curve.get((2, 0))
    if curve.get((0, 2)) != grown or (1, 1) in curve:
        return None
    twice = times((-2, 1), grown)
    middle = (over(curve.get((1, 0), NOUGHT), twice), over(curve.get((0, 1), NOUGHT), twice))
    square = minus(product_of_ways(middle, middle), over(curve.get((0, 0), NOUGHT), grown))
    return ("circle", middle[0], middle[1], square) if square[0] > 0 else None


def kind_of(curve):
    degree = degree_of(curve)
    if degree == 1:
        told = normal(curve)
        return ("line", told.get((1, 0), NOUGHT), told.get((0, 1), NOUGHT), told.get((0, 0), NOUGHT))
    return circle_of(curve) if degree == 2 else None
