"""Points, tuples of two root numbers of one field, and where circles and lines meet."""

from hingedraw.errors import NoField, NoMeet
from hingedraw.fractions import NOUGHT, minus, negative, over, plus, times
from hingedraw.roots import (
    is_plain, made, one_field, root_minus, root_plus, root_sign, root_times, with_sign_of,
)


def is_plain_point(point):
    return is_plain(point[0]) and is_plain(point[1])


def plain_point(place):
    return ((place[0], NOUGHT), (place[1], NOUGHT))


def place_of(point):
    # Of a plain point alone: its two fractions.
    return (point[0][0], point[1][0])


def ask_one_field(points):
    # Unlike roots may fall away in what is reckoned, so the numbers themselves are looked at.
    rooted = []
    for point in points:
        rooted.extend([number for number in point if not is_plain(number)])
    for number in rooted[1:]:
        if not one_field(rooted[0], number):
            raise NoField("the points are not of one field")


def way_between(one, other):
    return (root_minus(other[0], one[0]), root_minus(other[1], one[1]))


def square_of_way(way):
    return root_plus(root_times(way[0], way[0]), root_times(way[1], way[1]))


def square_apart(one, other):
    ask_one_field((one, other))
    return square_of_way(way_between(one, other))


def like_at(one, other, along, left):
    ask_one_field((one, other))
    way = way_between(one, other)
    ahead = (along, NOUGHT)
    aside = (left, NOUGHT)
    x = root_minus(root_times(ahead, way[0]), root_times(aside, way[1]))
    y = root_plus(root_times(ahead, way[1]), root_times(aside, way[0]))
    return (root_plus(one[0], x), root_plus(one[1], y))


def side_of(one, other, third):
    ask_one_field((one, other, third))
    way = way_between(one, other)
    beside = way_between(one, third)
    return root_sign(root_minus(root_times(way[0], beside[1]), root_times(way[1], beside[0])))


def plain_way(one, other):
    return (minus(other[0], one[0]), minus(other[1], one[1]))


def product_of_ways(one, other):
    return plus(times(one[0], other[0]), times(one[1], other[1]))


def moved(place, way, by):
    return (plus(place[0], times(way[0], by)), plus(place[1], times(way[1], by)))


def moved_by_root(place, way, square):
    numbers = []
    for part, portion in zip(place, way):
        under = times(times(portion, portion), square)
        numbers.append(made(part, with_sign_of(under, portion)))
    return (numbers[0], numbers[1])


def both_moved(place, way, square):
    # By the root of square times the way, and as far against it.
    if square[0] < 0:
        return []
    if square[0] == 0:
        return [plain_point(place)]
    against = (negative(way[0]), negative(way[1]))
    return [moved_by_root(place, way, square), moved_by_root(place, against, square)]


def square_of_unlike(way):
    square = product_of_ways(way, way)
    if square[0] == 0:
        raise NoMeet("the two points are one")
    return square


def circles_meet(one, square, other, other_square):
    start = place_of(one)
    way = plain_way(start, place_of(other))
    apart = square_of_unlike(way)
    # Where they meet lies so many times the way along it, the same for both points.
    along = over(plus(minus(square, other_square), apart), plus(apart, apart))
    aside = minus(over(square, apart), times(along, along))
    return both_moved(moved(start, way, along), (negative(way[1]), way[0]), aside)


def line_meets(one, other, middle, square):
    start = place_of(one)
    way = plain_way(start, place_of(other))
    apart = square_of_unlike(way)
    to_middle = plain_way(start, place_of(middle))
    # The middle of both points is the line's nearest one to the circle's middle.
    along = over(product_of_ways(way, to_middle), apart)
    beyond = over(minus(product_of_ways(to_middle, to_middle), square), apart)
    against = (negative(way[0]), negative(way[1]))
    return both_moved(moved(start, way, along), against, minus(times(along, along), beyond))
