"""Points as quotients of two ways of whole numbers, in which leads multiply and add alone, so that they are quick.

A way is (a, b, c, d) here: its x is a and b times a root, its y c and d times it. A quotient (top, bottom) is the point
whose way from (0, 0) turns and grows bottom into top, as it does (1, 0) into itself.
"""

from hingedraw.curves import common_bottom, common_multiple, surd_over, surd_times
from hingedraw.errors import NoQuotient
from hingedraw.fractions import ratio
from hingedraw.roots import joined


def wholes_over(fractions, bottom):
    return [fraction[0] * (bottom // fraction[1]) for fraction in fractions]


def way_times(way, by):
    return (
        by[0] * way[0] - by[1] * way[2], by[0] * way[1] - by[1] * way[3],
        by[1] * way[0] + by[0] * way[2], by[1] * way[1] + by[0] * way[3],
    )


def way_plus(one, other):
    return (one[0] + other[0], one[1] + other[1], one[2] + other[2], one[3] + other[3])


def way_minus(one, other):
    return (one[0] - other[0], one[1] - other[1], one[2] - other[2], one[3] - other[3])


def way_mirrored(way):
    return (way[0], way[1], -way[2], -way[3])


def quotient_of(point, base):
    x = surd_over(point[0], base)
    y = surd_over(point[1], base)
    bottom = common_multiple(x[1], y[1])
    x_times = bottom // x[1]
    y_times = bottom // y[1]
    top = (x[0][0] * x_times, x[0][1] * x_times, y[0][0] * y_times, y[0][1] * y_times)
    return (top, (bottom, 0, 0, 0))


def quotient_moved(quotient, move):
    # A move is a tuple (by, shift, mirrors) as hingedraw.leads tells it of a lead.
    if move[2]:
        quotient = (way_mirrored(quotient[0]), way_mirrored(quotient[1]))
    bottom = common_bottom(move[0] + move[1])
    grown = way_times(quotient[0], wholes_over(move[0], bottom))
    shifted = way_times(quotient[1], wholes_over(move[1], bottom))
    return (way_plus(grown, shifted), way_times(quotient[1], (bottom, 0)))


def quotient_inverted(quotient, middle, power):
    bottom = common_bottom(middle)
    wholes = wholes_over(middle, bottom)
    way = way_minus(way_times(quotient[0], (bottom, 0)), way_times(quotient[1], wholes))
    if way == (0, 0, 0, 0):
        raise NoQuotient("an invert leads its middle nowhere")
    # What is divided by a way turns back as much as it; by the mirrored way, so, it keeps the direction.
    way = way_mirrored(way)
    swapped = way_times(way_mirrored(quotient[1]), (power[0] * bottom * bottom, 0))
    from_middle = way_times(way, (power[1] * wholes[0], power[1] * wholes[1]))
    return (way_plus(from_middle, swapped), way_times(way, (power[1] * bottom, 0)))


def surd_plus(one, other):
    return (one[0] + other[0], one[1] + other[1])


def point_of(quotient, base):
    # Top and bottom are both multiplied by the mirrored bottom, then by its square with the root's sign turned: so
    # what is divided by is whole.
    under = base[0] * base[1]
    top = (quotient[0][:2], quotient[0][2:])
    bottom = (quotient[1][:2], quotient[1][2:])
    across = (-bottom[1][0], -bottom[1][1])
    square = surd_plus(surd_times(bottom[0], bottom[0], under), surd_times(bottom[1], bottom[1], under))
    norm = square[0] * square[0] - square[1] * square[1] * under
    told = []
    for by in (bottom, (across, bottom[0])):
        product = surd_plus(surd_times(top[0], by[0], under), surd_times(top[1], by[1], under))
        surd = surd_times(product, (square[0], -square[1]), under)
        told.append(joined(ratio(surd[0], norm), ratio(surd[1], norm), (under, 1)))
    return (told[0], told[1])
