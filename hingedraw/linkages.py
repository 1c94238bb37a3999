"""Linkages: tuples (many, fixed, rods) of joints, those that stay, and rods between them."""

from hingedraw.fractions import NOUGHT, is_above_nought, is_whole
from hingedraw.points import ask_one_field, square_of_way, way_between

MOST_JOINTS = 8
MOST_RODS = 12


def is_joint(thing, many):
    return is_whole(thing) and 0 <= thing < many


def are_fixed(thing, many):
    if not isinstance(thing, tuple):
        return False
    if not all([is_joint(joint, many) for joint in thing]):
        return False
    return all([one < other for one, other in zip(thing, thing[1:])])


def is_rod(thing, many):
    if not isinstance(thing, tuple) or len(thing) != 3:
        return False
    if not is_joint(thing[0], many) or not is_joint(thing[1], many):
        return False
    return thing[0] < thing[1] and is_above_nought(thing[2])


def are_rods(thing, many):
    if not isinstance(thing, tuple) or len(thing) > MOST_RODS:
        return False
    if not all([is_rod(rod, many) for rod in thing]):
        return False
    joined = [rod[:2] for rod in thing]
    return all([joined.count(joints) == 1 for joints in joined])


def is_linkage(thing):
    if not isinstance(thing, tuple) or len(thing) != 3:
        return False
    if not is_whole(thing[0]) or not 1 <= thing[0] <= MOST_JOINTS:
        return False
    return are_fixed(thing[1], thing[0]) and are_rods(thing[2], thing[0])


def first_wrong(linkage, place):
    ask_one_field(place)
    for number, rod in enumerate(linkage[2]):
        # A worth has one root number alone, so unlike ones are unlike in worth.
        if square_of_way(way_between(place[rod[0]], place[rod[1]])) != (rod[2], NOUGHT):
            return number
    return None


def freedom(linkage):
    return 2 * (linkage[0] - len(linkage[1])) - len(linkage[2])
