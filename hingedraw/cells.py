"""Cells of rods that invert or grow, the lines that inverting ones draw, and cells for lines."""

from hingedraw.curves import degree_of, line_from, normal
from hingedraw.errors import NoCurve, NoMeet
from hingedraw.fractions import NOUGHT, ONE, minus, negative, over, plus, times
from hingedraw.points import (
    circles_meet, like_at, moved, place_of, plain_point, plain_way, product_of_ways, square_of_unlike,
)
from hingedraw.roots import made, root_less, root_minus, root_plus


def inverting_linkage(outer, inner):
    return (5, (0,), (
        (0, 2, outer), (0, 3, outer), (1, 2, inner), (1, 3, inner), (2, 4, inner), (3, 4, inner),
    ))


def both_ends(middle, point, outer, inner):
    found = circles_meet(middle, outer, point, inner)
    if len(found) < 2:
        raise NoMeet("the arms do not meet at two points")
    return found


def inverting_cell(middle, point, outer, inner):
    ends = both_ends(middle, point, outer, inner)
    start = place_of(middle)
    way = plain_way(start, place_of(point))
    pen = moved(start, way, over(minus(outer, inner), product_of_ways(way, way)))
    return (middle, point, ends[0], ends[1], plain_point(pen))


def growing_linkage(near, far, by):
    square = times(by, by)
    rest = minus(by, ONE)
    rest_square = times(rest, rest)
    return (6, (0,), (
        (0, 2, near), (0, 3, times(square, near)), (1, 2, far), (1, 4, times(rest_square, near)),
        (2, 3, times(rest_square, near)), (3, 4, far), (3, 5, times(square, far)), (4, 5, times(rest_square, far)),
    ))


def growing_cell(middle, point, near, far, by):
    end = both_ends(middle, point, near, far)[0]
    grown_end = like_at(middle, end, by, NOUGHT)
    # The joints 1, 2, 3 and 4 are a figure whose rods across from one another are alike in length and direction.
    corner = tuple([root_plus(grown_end[at], root_minus(point[at], end[at])) for at in range(2)])
    return (middle, point, end, grown_end, corner, like_at(middle, point, by, NOUGHT))


def round_point(middle, about, way):
    start = place_of(middle)
    # The about is as far from the middle as from what is told: so it lies above the half of the way.
    half = over(product_of_ways(way, plain_way(start, place_of(about))), product_of_ways(way, way))
    return plain_point(moved(start, way, plus(half, half)))


def drawn_line(middle, about, power):
    start = place_of(middle)
    way = plain_way(start, place_of(about))
    square = square_of_unlike(way)
    nearest = moved(start, way, over(power, plus(square, square)))
    return normal(line_from(nearest, way))


def can_reach(apart, outer, inner):
    # Without signs, the squares of the roots' difference and of twice the way tell which of both is less.
    square = made(plus(outer, inner), negative(times((4, 1), times(outer, inner))))
    return root_less(square, (times((4, 1), apart), NOUGHT))


def draws(line, middle, about, outer, inner):
    if degree_of(line) != 1 or middle == about:
        return False
    if outer == inner or outer[0] <= 0 or inner[0] <= 0:
        return False
    if drawn_line(middle, about, minus(outer, inner)) != normal(line):
        return False
    way = plain_way(place_of(middle), place_of(about))
    return can_reach(product_of_ways(way, way), outer, inner)


def line_cell(line, middle):
    if degree_of(line) != 1:
        raise NoCurve("no line is to be drawn")
    start = place_of(middle)
    across = (line.get((1, 0), NOUGHT), line.get((0, 1), NOUGHT))
    value = plus(product_of_ways(across, start), line.get((0, 0), NOUGHT))
    if value[0] == 0:
        raise NoCurve("a line through the middle is drawn by no cell")
    way = moved((NOUGHT, NOUGHT), across, negative(over(value, product_of_ways(across, across))))
    # With the about halfway to the line the power is the square of the way to it, and these two reach far enough.
    square = product_of_ways(way, way)
    return (plain_point(moved(start, way, (1, 2))), plus(square, square), square)
