"""Four rods, tuples (a, b, c, g): crank, coupler, rocker, and how far the fixed ends, (0, 0) and (g, 0), are apart."""

from hingedraw.errors import NoField
from hingedraw.fractions import NOUGHT, minus, over, plus, times
from hingedraw.linkages import first_wrong
from hingedraw.machines import crank_end
from hingedraw.points import circles_meet, like_at, plain_point, side_of

START = (((0, 1), (0, 1)), ((0, 1), (0, 1)))

# Which rod turns beside the ground, and the two that it is held against.
TURNING = {"crank": (0, 1, 2), "coupler": (1, 0, 2), "rocker": (2, 0, 1)}


def ground_end(rods):
    return plain_point((rods[3], NOUGHT))


def square_of(length):
    return times(length, length)


def in_wholes(rods):
    # All grown alike, so that whole numbers can be compared in the stead of fractions.
    bottom = 1
    for rod in rods:
        bottom = bottom * rod[1]
    return [rod[0] * (bottom // rod[1]) for rod in rods]


def can_stand(rods):
    lengths = in_wholes(rods)
    return 2 * max(lengths) <= sum(lengths)


def is_stand(rods, stand):
    squares = [square_of(rod) for rod in rods[:3]]
    linkage = (4, (0, 3), ((0, 1, squares[0]), (1, 2, squares[1]), (2, 3, squares[2])))
    try:
        return first_wrong(linkage, (START, stand[0], stand[1], ground_end(rods))) is None
    except NoField:
        return False


def stands_at(rods, drive):
    end = crank_end(START, rods[0], drive)
    found = circles_meet(end, square_of(rods[1]), ground_end(rods), square_of(rods[2]))
    return [(end, point) for point in found]


def turns(rods, word):
    lengths = in_wholes(rods)
    places = TURNING[word]
    ground = lengths[3]
    turning = lengths[places[0]]
    one = lengths[places[1]]
    other = lengths[places[2]]
    return abs(ground - turning) >= abs(one - other) and ground + turning <= one + other


def dead_ones(rods, word, apart):
    # Apart may be below 0, where the rocker is the longer one: B then lies behind A, not ahead of it.
    ground = ground_end(rods)
    along = over(rods[1], apart)
    ends = circles_meet(START, square_of(rods[0]), ground, square_of(apart))
    return [(word, end, like_at(end, ground, along, NOUGHT)) for end in ends]


def dead_stands(rods):
    told = dead_ones(rods, "stretched", plus(rods[1], rods[2]))
    # Folded rods of one length would have A at the ground's end.
    if rods[1] != rods[2]:
        told.extend(dead_ones(rods, "folded", minus(rods[1], rods[2])))
    return told


def many_pieces(rods):
    if not can_stand(rods):
        return 0
    lengths = sorted(in_wholes(rods))
    return 2 if lengths[0] + lengths[3] < lengths[1] + lengths[2] else 1


def side_of_piece(rods, stand):
    lengths = in_wholes(rods)
    ground = ground_end(rods)
    if min(lengths) == min(lengths[0], lengths[3]):
        return side_of(stand[0], ground, stand[1])
    return side_of(START, ground, stand[0])


def one_piece(rods, one, other):
    if many_pieces(rods) < 2:
        return True
    return side_of_piece(rods, one) == side_of_piece(rods, other)
