"""Root numbers: tuples (part, under), a fraction and the root of another, with a sign."""

from hingedraw.errors import NoField, NoQuotient, NoRoot
from hingedraw.fractions import NOUGHT, is_fraction, minus, negative, over, plus, root_in, times, without_sign


def is_plain(one):
    return one[1][0] == 0


def with_sign_of(one, other):
    return negative(one) if other[0] < 0 else one


def is_number(thing):
    if not isinstance(thing, tuple) or len(thing) != 2:
        return False
    if not is_fraction(thing[0]) or not is_fraction(thing[1]):
        return False
    return is_plain(thing) or root_in(without_sign(thing[1])) is None


def made(part, under):
    root = root_in(without_sign(under))
    if root is None:
        return (part, under)
    return (plus(part, with_sign_of(root, under)), NOUGHT)


def root_of(fraction):
    if fraction[0] < 0:
        raise NoRoot("there is no root of what is below 0")
    return made(NOUGHT, fraction)


def one_field(one, other):
    if is_plain(one) or is_plain(other):
        return True
    return root_in(over(without_sign(one[1]), without_sign(other[1]))) is not None


def field_base(one, other):
    # A plain number lies in every field, so the other one tells the root.
    return without_sign(other[1] if is_plain(one) else one[1])


def share(one, base):
    # How many times the root of base goes with the part.
    if is_plain(one):
        return NOUGHT
    root = root_in(over(without_sign(one[1]), base))
    if root is None:
        raise NoField("the two are not of one field")
    return with_sign_of(root, one[1])


def joined(part, portion, base):
    # Base is no square but 0, so what is put under the root is none either.
    under = times(times(portion, portion), base)
    return (part, with_sign_of(under, portion))


def root_negative(one):
    return (negative(one[0]), negative(one[1]))


def root_plus(one, other):
    base = field_base(one, other)
    portion = plus(share(one, base), share(other, base))
    return joined(plus(one[0], other[0]), portion, base)


def root_minus(one, other):
    return root_plus(one, root_negative(other))


def root_times(one, other):
    base = field_base(one, other)
    mine = share(one, base)
    theirs = share(other, base)
    part = plus(times(one[0], other[0]), times(times(mine, theirs), base))
    portion = plus(times(one[0], theirs), times(other[0], mine))
    return joined(part, portion, base)


def root_over(one, other):
    if is_plain(other) and other[0][0] == 0:
        raise NoQuotient("there is no quotient by 0")
    # Both are multiplied by the other one's part less its root: so its root falls away.
    product = root_times(one, (other[0], negative(other[1])))
    # What is left of the other one is never 0, as under its root stands no square but 0.
    norm = minus(times(other[0], other[0]), without_sign(other[1]))
    under = over(product[1], times(norm, norm))
    return (over(product[0], norm), with_sign_of(under, norm))


def sign_of(number):
    if number == 0:
        return 0
    return 1 if number > 0 else -1


def root_sign(one):
    # The greater of part and root gives the sign; their squares tell which it is, alike where both are 0 alone.
    apart = minus(times(one[0], one[0]), without_sign(one[1]))
    return sign_of(one[0][0]) if apart[0] > 0 else sign_of(one[1][0])


def root_less(one, other):
    return root_sign(root_minus(one, other)) < 0
