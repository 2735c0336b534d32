"""Polynomials in n and their quotients: tuples of numbers, the last one not 0, from n to the power 0 on."""

from math import gcd


def trimmed(numbers):
    """The tuple of the numbers without 0s at its end."""
    many = len(numbers)
    while many > 0 and numbers[many - 1] == 0:
        many -= 1
    return tuple(numbers[:many])


def worth(poly, n):
    out = 0
    for number in reversed(poly):
        out = out * n + number
    return out


def poly_sum(one, other):
    many = max(len(one), len(other))
    left = list(one) + [0] * (many - len(one))
    right = list(other) + [0] * (many - len(other))
    return trimmed([x + y for x, y in zip(left, right)])


def poly_product(one, other):
    out = [0] * (len(one) + len(other))
    for i, x in enumerate(one):
        for j, y in enumerate(other):
            out[i + j] += x * y
    return trimmed(out)


def falling_poly(many):
    """The product n (n - 1) .. of so many terms."""
    out = (1,)
    for k in range(many):
        out = poly_product(out, (-k, 1))
    return out


def content(polys):
    """The greatest number that divides all numbers in the polynomials, 0 if there are only 0s."""
    out = 0
    for poly in polys:
        for number in poly:
            out = gcd(out, number)
    return out


def shared_out(poly, number):
    return tuple([x // number for x in poly])


def primitive(poly):
    """The polynomial without what divides all its numbers."""
    return shared_out(poly, content([poly])) if poly else poly


def rest_of(poly, other):
    """What is left of some multiple of poly if as much of other is taken off as can be."""
    while len(poly) >= len(other):
        shift = (0,) * (len(poly) - len(other))
        off = poly_product(shift + other, (-poly[-1],))
        poly = primitive(poly_sum(poly_product(poly, (other[-1],)), off))
    return poly


def common_poly(poly, other):
    """The greatest polynomial that divides both, without what divides all its numbers."""
    while other:
        poly, other = other, rest_of(poly, other)
    return primitive(poly)


def divided(poly, other):
    """The polynomial that times other is poly, other dividing it in whole numbers."""
    out = [0] * len(poly)
    while len(poly) >= len(other):
        place, number = len(poly) - len(other), poly[-1] // other[-1]
        out[place] = number
        poly = poly_sum(poly, poly_product((0,) * place + other, (-number,)))
    return trimmed(out)


def lowest_ratio(top, bottom):
    """The QUOTIENT top divided by bottom in lowest terms, bottom not ()."""
    shared = common_poly(bottom, top)
    top, bottom = divided(top, shared), divided(bottom, shared)
    number = content([top, bottom])
    if bottom[-1] < 0:
        number = -number
    return (shared_out(top, number), shared_out(bottom, number))


def ratio_sum(one, other):
    (top, bottom), (far_top, far_bottom) = one, other
    joint = poly_sum(poly_product(top, far_bottom), poly_product(far_top, bottom))
    return lowest_ratio(joint, poly_product(bottom, far_bottom))
