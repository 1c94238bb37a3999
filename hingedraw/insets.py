"""Sides of curves with other sums set in for x and y, in dicts of powers and whole numbers, so that they are quick."""

from hingedraw.curves import degree_of, product_of_tops


def without_nought_tops(tops):
    told = {}
    for key, top in tops.items():
        if top != 0:
            told[key] = top
    return told


def sum_of_tops(one, other):
    told = dict(one)
    for key, top in other.items():
        told[key] = told.get(key, 0) + top
    return told


def powers_up_to(number, most):
    told = [1]
    for turn in range(most):
        told.append(told[turn] * number)
    return told


def set_in(tops, x, y, bottom):
    # x and y are each set in divided by bottom; all is told times bottom to the power of the degree, so it stays whole.
    degree = degree_of(tops)
    bottoms = powers_up_to(bottom, degree)
    told = {}
    for i in range(degree, -1, -1):
        column = {}
        for j in range(degree - i, -1, -1):
            top = tops.get((i, j), 0) * bottoms[degree - i - j]
            column = sum_of_tops(product_of_tops(column, y), {(0, 0): top})
        told = sum_of_tops(product_of_tops(told, x), column)
    return without_nought_tops(told)


def turned_over(tops, power):
    # Each way from (0, 0) is swapped for power times it by its round, the squares of its x and y together; all is told
    # times the least power of the round that leaves no quotient, and times a number, so that it stays whole.
    degree = degree_of(tops)
    powers = powers_up_to(power[0], degree)
    grown_round = {(2, 0): power[1], (0, 2): power[1]}
    told = {}
    for level in range(degree + 1):
        part = {}
        for key, top in tops.items():
            if key[0] + key[1] == level:
                part[key] = top * powers[level]
        told = sum_of_tops(product_of_tops(told, grown_round), part)
    return without_rounds(without_nought_tops(told))


def without_rounds(tops):
    # The round is no product of two sums of powers by fractions, so it is enough to divide by it as often as it goes.
    rest = tops
    while rest is not None:
        tops = rest
        rest = over_round(tops)
    return tops


def over_round(tops):
    # Divided by x x + y y, from the greatest power of x down; None where something is left.
    rest = dict(tops)
    told = {}
    for i in range(degree_of(tops), 1, -1):
        keys = [key for key in rest if key[0] == i and rest[key] != 0]
        for key in keys:
            lower = (i - 2, key[1] + 2)
            told[(i - 2, key[1])] = rest[key]
            rest[lower] = rest.get(lower, 0) - rest[key]
            rest[key] = 0
    return None if any([top != 0 for top in rest.values()]) else told
