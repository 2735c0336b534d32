"""Reckoning with FRACTIONS, pairs (top, bottom) in lowest terms."""

from math import gcd, lcm

ZERO = (0, 1)
ONE = (1, 1)


def lowest(top, bottom):
    """The FRACTION top / bottom, bottom not 0."""
    divisor = gcd(top, bottom)
    if bottom < 0:
        divisor = -divisor
    return (top // divisor, bottom // divisor)


def plus(x, y):
    return lowest(x[0] * y[1] + y[0] * x[1], x[1] * y[1])


def less(x, y):
    return lowest(x[0] * y[1] - y[0] * x[1], x[1] * y[1])


def times(x, y):
    return lowest(x[0] * y[0], x[1] * y[1])


def over(x, y):
    return lowest(x[0] * y[1], x[1] * y[0])


def is_below(x, y):
    return x[0] * y[1] < y[0] * x[1]


def total(xs):
    """The sum of the FRACTIONS xs."""
    out = ZERO
    for x in xs:
        out = plus(out, x)
    return out


def whole_power(base, k):
    """The number base to the power k, k from 0."""
    out = 1
    while k > 0:
        if k & 1:
            out = out * base
        k = k >> 1
        if k > 0:
            base = base * base
    return out


def power(x, k):
    return (whole_power(x[0], k), whole_power(x[1], k))


def common_bottom(xs):
    """The least number that all bottoms divide."""
    out = 1
    for x in xs:
        out = lcm(out, x[1])
    return out


def whole(x, bottom):
    """The top of x over this bottom, which its own one divides."""
    return x[0] * (bottom // x[1])


def is_row_below(row, other):
    """Whether row comes ahead of other, a tuple of as many FRACTIONS, by quotients."""
    for x, y in zip(row, other):
        if x != y:
            return is_below(x, y)
    return False


def by_quotients(rows):
    """The list of these tuples of FRACTIONS, all of one length, in order by quotients."""
    # Over one bottom the tops alone tell the order.
    bottom = common_bottom([x for row in rows for x in row])
    return sorted(rows, key=lambda own: [whole(part, bottom) for part in own])


def sums_by_key(pairs):
    """The dict of the sums of the FRACTIONS of pairs (key, FRACTION) by their keys."""
    sums = {}
    for key, x in pairs:
        sums[key] = plus(sums[key], x) if key in sums else x
    return sums


def summed(pairs):
    """The tuple of pairs (key, FRACTION other than 0), ascending by keys, with the sums by keys."""
    sums = sums_by_key(pairs)
    return tuple([(key, sums[key]) for key in sorted(sums) if sums[key][0] != 0])
