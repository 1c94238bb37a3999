"""Speeds that keep a linkage's rods at a plain place, and weights of rods that balance there."""

from hingedraw.fractions import NOUGHT, minus, negative, plus, times
from hingedraw.linkages import freedom
from hingedraw.points import place_of, plain_way, product_of_ways
from hingedraw.rows import rank_of, solutions

REST = ((0, 1), (0, 1))


def free_joints(linkage):
    return [joint for joint in range(linkage[0]) if joint not in linkage[1]]


def way_of_rod(rod, place):
    return plain_way(place_of(place[rod[0]]), place_of(place[rod[1]]))


def keep(linkage, place, speeds):
    for joint in linkage[1]:
        if speeds[joint] != REST:
            return False
    for rod in linkage[2]:
        apart = plain_way(speeds[rod[0]], speeds[rod[1]])
        if product_of_ways(way_of_rod(rod, place), apart) != NOUGHT:
            return False
    return True


def row_of_rod(rod, place, joints):
    way = way_of_rod(rod, place)
    row = []
    for joint in joints:
        if joint == rod[1]:
            row.extend(way)
        elif joint == rod[0]:
            row.extend([negative(way[0]), negative(way[1])])
        else:
            row.extend(REST)
    return row


def rows_of_rods(linkage, place):
    joints = free_joints(linkage)
    return [row_of_rod(rod, place, joints) for rod in linkage[2]]


def many_swings(linkage, place):
    many = 2 * len(free_joints(linkage))
    return many - rank_of(rows_of_rods(linkage, place), many)


def speeds_of(linkage, numbers):
    speeds = [REST] * linkage[0]
    for at, joint in enumerate(free_joints(linkage)):
        speeds[joint] = ((numbers[2 * at], 1), (numbers[2 * at + 1], 1))
    return tuple(speeds)


def swings(linkage, place):
    many = 2 * len(free_joints(linkage))
    return [speeds_of(linkage, numbers) for numbers in solutions(rows_of_rods(linkage, place), many)]


def pull_at(joint, linkage, place, weights):
    pull = REST
    for rod, weight in zip(linkage[2], weights):
        way = way_of_rod(rod, place)
        if joint == rod[0]:
            pull = (plus(pull[0], times(way[0], weight)), plus(pull[1], times(way[1], weight)))
        if joint == rod[1]:
            pull = (minus(pull[0], times(way[0], weight)), minus(pull[1], times(way[1], weight)))
    return pull


def balance(linkage, place, weights):
    if all([weight == NOUGHT for weight in weights]):
        return False
    return all([pull_at(joint, linkage, place, weights) == REST for joint in free_joints(linkage)])


def column_of(rows, column):
    return [row[column] for row in rows]


def paper_of(linkage, place):
    rows = rows_of_rods(linkage, place)
    # The columns, two for each joint that is free, hold the ways that the weights are to balance, but for a sign.
    columns = [column_of(rows, at) for at in range(2 * len(free_joints(linkage)))]
    found = solutions(columns, len(rows))
    if len(found) == 0:
        return ("free",)
    return ("bound", tuple([(number, 1) for number in found[0]]))


def is_right(linkage, place, paper):
    if paper[0] == "free":
        return many_swings(linkage, place) == freedom(linkage)
    return balance(linkage, place, paper[1])
