"""What kind of value something is, and lists in the place of tuples."""

from math import gcd


def as_tuples(value):
    """The same value with a tuple for each list in it."""
    if isinstance(value, (list, tuple)):
        return tuple([as_tuples(part) for part in value])
    return value


def is_number(thing):
    return isinstance(thing, int) and not isinstance(thing, bool)


def is_tuple_of(thing, many):
    return isinstance(thing, tuple) and len(thing) == many


def is_fraction(thing):
    if not is_tuple_of(thing, 2) or not all(is_number(part) for part in thing):
        return False
    top, bottom = thing
    return bottom >= 1 and gcd(top, bottom) == 1


def is_fraction_above_0(thing):
    return is_fraction(thing) and thing[0] > 0


def is_fraction_not_0(thing):
    return is_fraction(thing) and thing[0] != 0


def are_fractions(thing, many):
    """Whether thing is a tuple of so many FRACTIONS, as a ROW is for so many columns."""
    return is_tuple_of(thing, many) and all(is_fraction(part) for part in thing)


def are_powers(thing, c):
    """Whether thing is a tuple of c numbers from 0."""
    return is_tuple_of(thing, c) and all(is_number(part) and part >= 0 for part in thing)


def is_order_of(thing, n):
    """Whether thing is a tuple of the numbers 0 .. n - 1, each once."""
    if not is_tuple_of(thing, n) or not all(is_number(part) for part in thing):
        return False
    return sorted(thing) == list(range(n))


def rises(keys):
    """Whether each of the keys is greater than the one ahead of it, by Python's comparison."""
    return all(low < high for low, high in zip(keys, keys[1:]))
