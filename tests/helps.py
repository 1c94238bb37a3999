"""What several tests need: numbers made another way than the program makes them."""

from fractions import Fraction
from math import gcd, isqrt


def pair(value):
    """The tuple that stands for a Fraction."""
    value = Fraction(value)
    return (value.numerator, value.denominator)


def number(part, portion=0, base=2):
    """The root number of part + portion * root(base), base no square."""
    portion = Fraction(portion)
    under = portion * portion * Fraction(base)
    return (pair(part), pair(-under if portion < 0 else under))


def looks_whole(thing):
    return type(thing) is int


def looks_like_fraction(thing):
    if type(thing) is not tuple or len(thing) != 2:
        return False
    if not (looks_whole(thing[0]) and looks_whole(thing[1])):
        return False
    return thing[1] > 0 and gcd(thing[0], thing[1]) == 1


def is_square(whole):
    return isqrt(whole) ** 2 == whole


def looks_like_number(thing):
    if type(thing) is not tuple or len(thing) != 2:
        return False
    if not (looks_like_fraction(thing[0]) and looks_like_fraction(thing[1])):
        return False
    top, bottom = thing[1]
    return top == 0 or not (is_square(abs(top)) and is_square(bottom))


def sixty_figures(chance):
    return chance.choice((-1, 1)) * chance.randrange(10 ** 59, 10 ** 60)


def great_fraction(chance):
    return Fraction(sixty_figures(chance), sixty_figures(chance))


def small_fraction(chance):
    return Fraction(chance.randint(-12, 12), chance.randint(1, 9))
