"""Machines: tuples of steps, each of which makes the next joint; where they stand, and their linkages."""

from hingedraw.errors import NoField, NoMachine, NoMeet, Stuck
from hingedraw.fractions import (
    NOUGHT, ONE, is_above_nought, is_fraction, is_whole, minus, negative, over, plus, times,
)
from hingedraw.linkages import is_joint
from hingedraw.points import (
    circles_meet, is_plain_point, like_at, moved, place_of, plain_point, plain_way, product_of_ways,
)

MOST_STEPS = 7


def are_unlike_joints(one, other, many):
    return is_joint(one, many) and is_joint(other, many) and one != other


def is_fix(step):
    return len(step) == 3 and is_fraction(step[1]) and is_fraction(step[2])


def is_crank(step, ahead):
    if len(step) != 3 or not is_joint(step[1], len(ahead)):
        return False
    return ahead[step[1]][0] == "fix" and is_above_nought(step[2])


def is_pair(step, ahead):
    if len(step) != 6 or not are_unlike_joints(step[1], step[2], len(ahead)):
        return False
    if not is_above_nought(step[3]) or not is_above_nought(step[4]):
        return False
    return is_whole(step[5]) and 0 <= step[5] <= 1


def is_like(step, ahead):
    if len(step) != 5 or not are_unlike_joints(step[1], step[2], len(ahead)):
        return False
    return is_fraction(step[3]) and is_fraction(step[4])


def is_step(step, ahead):
    if not isinstance(step, tuple) or len(step) == 0:
        return False
    if step[0] == "fix":
        return is_fix(step)
    if step[0] == "crank":
        return is_crank(step, ahead)
    if step[0] == "pair":
        return is_pair(step, ahead)
    return step[0] == "like" and is_like(step, ahead)


def is_machine(thing):
    if not isinstance(thing, tuple) or not 1 <= len(thing) <= MOST_STEPS:
        return False
    for number, step in enumerate(thing):
        # Steps ahead are right ones already, so they may be read.
        if not is_step(step, thing[:number]):
            return False
    return True


def direction_of(drive):
    if drive is None:
        return (negative(ONE), NOUGHT)
    square = times(drive, drive)
    total = plus(ONE, square)
    return (over(minus(ONE, square), total), over(plus(drive, drive), total))


def crank_end(middle, length, drive):
    return plain_point(moved(place_of(middle), direction_of(drive), length))


def pair_point(step, number, points):
    one = points[step[1]]
    other = points[step[2]]
    if not is_plain_point(one) or not is_plain_point(other):
        raise NoField("a pair stands on plain joints alone")
    try:
        found = circles_meet(one, step[3], other, step[4])
    except NoMeet:
        raise Stuck(number) from None
    if len(found) == 0:
        raise Stuck(number)
    return found[step[5]] if len(found) == 2 else found[0]


def stand(machine, drives):
    points = []
    cranks = 0
    for number, step in enumerate(machine):
        if step[0] == "fix":
            points.append(plain_point((step[1], step[2])))
        elif step[0] == "crank":
            points.append(crank_end(points[step[1]], step[2], drives[cranks]))
            cranks = cranks + 1
        elif step[0] == "pair":
            points.append(pair_point(step, number, points))
        else:
            points.append(like_at(points[step[1]], points[step[2]], step[3], step[4]))
    return points


def steady_square(machine, rods, one, other):
    joints = (min(one, other), max(one, other))
    for rod in rods:
        if rod[:2] == joints:
            return rod[2]
    if machine[one][0] != "fix" or machine[other][0] != "fix":
        raise NoMachine("the way between a like's joints may change")
    way = plain_way(machine[one][1:], machine[other][1:])
    return product_of_ways(way, way)


def rods_of_like(machine, number, rods):
    step = machine[number]
    square = steady_square(machine, rods, step[1], step[2])
    told = []
    for joint, along in ((step[1], step[3]), (step[2], minus(ONE, step[3]))):
        way = (along, step[4])
        told.append((joint, number, times(product_of_ways(way, way), square)))
    if told[0][2][0] == 0 or told[1][2][0] == 0:
        raise NoMachine("a rod of a like would have no length")
    return told


def rods_of_step(machine, number, rods):
    step = machine[number]
    if step[0] == "fix":
        return []
    if step[0] == "crank":
        return [(step[1], number, times(step[2], step[2]))]
    if step[0] == "pair":
        return [(step[1], number, step[3]), (step[2], number, step[4])]
    return rods_of_like(machine, number, rods)


def linkage_of(machine):
    rods = []
    fixed = []
    for number, step in enumerate(machine):
        rods.extend(rods_of_step(machine, number, rods))
        if step[0] == "fix":
            fixed.append(number)
    return (len(machine), tuple(fixed), tuple(rods))
