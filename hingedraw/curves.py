"""Curves: dicts of keys (i, j), the powers of x and y, and fractions; a curve's side is nought at the points on it."""

from hingedraw.errors import NoCurve
from hingedraw.fractions import NOUGHT, ONE, common_divisor, minus, negative, over, plus, ratio, times
from hingedraw.points import place_of, plain_way, product_of_ways, square_of_unlike
from hingedraw.roots import field_base, joined, share


def without_noughts(sums):
    told = {}
    for key, fraction in sums.items():
        if fraction[0] != 0:
            told[key] = fraction
    return told


def curve_plus(one, other):
    sums = dict(one)
    for key, fraction in other.items():
        sums[key] = plus(sums.get(key, NOUGHT), fraction)
    return without_noughts(sums)


def curve_minus(one, other):
    return curve_plus(one, curve_grown(other, negative(ONE)))


def curve_grown(curve, by):
    grown = {}
    for key, fraction in curve.items():
        grown[key] = times(fraction, by)
    return without_noughts(grown)


def common_multiple(one, other):
    return one // common_divisor(one, other) * other


def common_bottom(fractions):
    bottom = 1
    for fraction in fractions:
        bottom = common_multiple(bottom, fraction[1])
    return bottom


def tops_over(curve, bottom):
    tops = {}
    for key, fraction in curve.items():
        tops[key] = fraction[0] * (bottom // fraction[1])
    return tops


def product_of_tops(one, other):
    sums = {}
    for mine, top in one.items():
        for theirs, other_top in other.items():
            key = (mine[0] + theirs[0], mine[1] + theirs[1])
            sums[key] = sums.get(key, 0) + top * other_top
    return sums


def curve_times(one, other):
    # Multiplied in whole numbers: so each sum is brought to lowest terms once, not at each step.
    mine = common_bottom(list(one.values()))
    theirs = common_bottom(list(other.values()))
    told = {}
    for key, top in product_of_tops(tops_over(one, mine), tops_over(other, theirs)).items():
        told[key] = ratio(top, mine * theirs)
    return without_noughts(told)


def normal_of_tops(tops):
    shared = 0
    for top in tops.values():
        shared = common_divisor(shared, top)
    if tops[max(tops)] < 0:
        shared = -shared
    told = {}
    for key, top in tops.items():
        told[key] = (top // shared, 1)
    return told


def normal(curve):
    if len(curve) == 0:
        raise NoCurve("what is nought throughout has no normal curve")
    return normal_of_tops(tops_over(curve, common_bottom(list(curve.values()))))


def degree_of(curve):
    return max([key[0] + key[1] for key in curve], default=None)


def top_part(curve):
    degree = degree_of(curve)
    told = {}
    for key, fraction in curve.items():
        if key[0] + key[1] == degree:
            told[key] = fraction
    return told


def slope(curve, at):
    told = {}
    for key, fraction in curve.items():
        if key[at] > 0:
            lower = (key[0] - 1, key[1]) if at == 0 else (key[0], key[1] - 1)
            told[lower] = times(fraction, (key[at], 1))
    return told


def surd_times(one, other, base):
    # A surd (a, b), both whole numbers, is a and b times the root of the whole number base.
    return (one[0] * other[0] + one[1] * other[1] * base, one[0] * other[1] + one[1] * other[0])


def surd_power(one, power, base):
    # By squares, so that 0 and 1 have great powers at once.
    told = (1, 0)
    while power > 0:
        if power % 2 == 1:
            told = surd_times(told, one, base)
        power = power // 2
        if power > 0:
            one = surd_times(one, one, base)
    return told


def surd_over(number, base):
    # The root of a fraction is the root of top times bottom, by the bottom.
    portion = over(share(number, base), (base[1], 1))
    bottom = common_multiple(number[0][1], portion[1])
    surd = (number[0][0] * (bottom // number[0][1]), portion[0] * (bottom // portion[1]))
    return (surd, bottom)


def powers_over(number, powers, base):
    # A dict of the powers, as surds, all over one bottom; and this bottom.
    found = surd_over(number, base)
    under = base[0] * base[1]
    bottom = (found[1], 0)
    most = max(powers)
    told = {}
    for power in sorted(set(powers)):
        told[power] = surd_times(surd_power(found[0], power, under), surd_power(bottom, most - power, under), under)
    return (told, surd_power(bottom, most, under)[0])


def side_over(curve, point, base):
    # What the side comes to, as a surd and its bottom: nothing is brought to lowest terms on the way.
    xs = powers_over(point[0], [key[0] for key in curve], base)
    ys = powers_over(point[1], [key[1] for key in curve], base)
    bottom = common_bottom(list(curve.values()))
    part = 0
    portion = 0
    for key, top in tops_over(curve, bottom).items():
        surd = surd_times(xs[0][key[0]], ys[0][key[1]], base[0] * base[1])
        part = part + top * surd[0]
        portion = portion + top * surd[1]
    return ((part, portion), bottom * xs[1] * ys[1])


def value_at(curve, point):
    if len(curve) == 0:
        return (NOUGHT, NOUGHT)
    base = field_base(point[0], point[1])
    found = side_over(curve, point, base)
    part = ratio(found[0][0], found[1])
    return joined(part, ratio(found[0][1], found[1]), (base[0] * base[1], 1))


def on_curve(curve, point):
    if len(curve) == 0:
        return True
    return side_over(curve, point, field_base(point[0], point[1]))[0] == (0, 0)


def line_from(place, across):
    # The points whose way from the place, times across, x by x and y by y, is 0.
    return without_noughts({
        (1, 0): across[0], (0, 1): across[1], (0, 0): negative(product_of_ways(place, across)),
    })


def round_about(place, square):
    # The points so far from the place; the square may be 0 or below here, where nothing but the side is asked.
    x = plus(place[0], place[0])
    y = plus(place[1], place[1])
    rest = minus(product_of_ways(place, place), square)
    return without_noughts({(2, 0): ONE, (0, 2): ONE, (1, 0): negative(x), (0, 1): negative(y), (0, 0): rest})


def line_through(one, other):
    place = place_of(one)
    way = plain_way(place, place_of(other))
    # Asked for its refusal alone.
    square_of_unlike(way)
    return normal(line_from(place, (negative(way[1]), way[0])))


def circle_about(middle, square):
    return normal(round_about(place_of(middle), square))
