"""Four rods and a pen on the coupler: their machine, and the curve on which the pen lies."""

from hingedraw.curves import curve_grown, curve_minus, curve_plus, curve_times, line_from, normal, round_about
from hingedraw.fractions import ONE, minus, negative, times
from hingedraw.points import product_of_ways


def pen_machine(one, other, crank, squares, place, side):
    return (
        ("fix", one[0], one[1]), ("fix", other[0], other[1]), ("crank", 0, crank),
        ("pair", 2, 1, squares[0], squares[1], side), ("like", 2, 3, place[0], place[1]),
    )


def rod_curves(place, way, coupler, square):
    # The rod's end lies from the pen against so many times the coupler's way, along and to the left. That it is so far
    # from the place says: by_x times the coupler's x and by_y times its y, both twice, come to the last side.
    by_x = line_from(place, way)
    by_y = line_from(place, (negative(way[1]), way[0]))
    return (by_x, by_y, round_about(place, minus(square, times(product_of_ways(way, way), coupler))))


def difference_of_products(one, other, third, fourth):
    return curve_minus(curve_times(one, other), curve_times(third, fourth))


def coupler_curve(one, other, crank, squares, place):
    # Two such sides tell the coupler's x and y as quotients by twice the same; their squares come to the coupler's.
    near = rod_curves(one, place, squares[0], times(crank, crank))
    rest = (minus(place[0], ONE), place[1])
    far = rod_curves(other, rest, squares[0], squares[1])
    x = difference_of_products(near[2], far[1], far[2], near[1])
    y = difference_of_products(near[0], far[2], far[0], near[2])
    by = difference_of_products(near[0], far[1], far[0], near[1])
    total = curve_plus(curve_times(x, x), curve_times(y, y))
    return normal(curve_minus(total, curve_grown(curve_times(by, by), times((4, 1), squares[0]))))
