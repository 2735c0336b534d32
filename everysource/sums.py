"""TOTALS: polynomials in sums over rows, and sums over unlike rows."""

from everysource.errors import CanNot
from everysource.lots import falling, lot_powers, lot_signs, lots_of
from everysource.means import any_powers
from everysource.polys import monomial, scaled
from everysource.quotients import ZERO, lowest, plus, summed, times
from everysource.things import are_powers, as_tuples, is_fraction_not_0, is_tuple_of, rises
from everysource.wishes import wish_degree, wish_times


def is_total(thing, c):
    if not isinstance(thing, tuple) or not all(is_total_pair(pair, c) for pair in thing):
        return False
    return rises([factors for factors, _ in thing])


def is_total_pair(thing, c):
    return is_tuple_of(thing, 2) and are_sums(thing[0], c) and is_fraction_not_0(thing[1])


def are_sums(thing, c):
    """Whether thing is a tuple of POWERS, ascending, equal ones side by side."""
    if not isinstance(thing, tuple) or not all(are_powers(powers, c) for powers in thing):
        return False
    return all(low <= high for low, high in zip(thing, thing[1:]))


def total_at(total, rows):
    rows = as_tuples(rows)
    sums, out = {}, ZERO
    for factors, x in as_tuples(total):
        for powers in factors:
            if powers not in sums:
                sums[powers] = sum_by(powers, rows)
            x = times(x, sums[powers])
        out = plus(out, x)
    return out


def sum_by(powers, rows):
    out = ZERO
    for row in rows:
        out = plus(out, monomial(row, powers))
    return out


def unlike_at(total, rows):
    return total_at(from_unlike(total), rows)


def plus_totals(total, other):
    return summed(as_tuples(total) + as_tuples(other))


def times_totals(total, other):
    return wish_times(total, other)


def scaled_total(total, x):
    return scaled(as_tuples(total), as_tuples(x))


def in_unlike(total):
    pairs = []
    for factors, x in as_tuples(total):
        pairs.extend([(lot_powers(lots), times(x, (count, 1))) for lots, count in lots_of(factors).items()])
    return summed(pairs)


def from_unlike(total):
    pairs = []
    for factors, x in as_tuples(total):
        for lots, count in lots_of(factors).items():
            pairs.append((lot_powers(lots), times(x, (count * lot_signs(lots), 1))))
    return summed(pairs)


def form_of(total, n, c):
    return summed([(powers, x) for factors, x in as_tuples(total) for powers in any_powers(factors, n, c)])


def right_value(wish, rows):
    if wish_degree(wish) > len(rows):
        raise CanNot()
    out = ZERO
    for factors, x in as_tuples(wish):
        worth = unlike_at(((factors, x),), rows)
        out = plus(out, times(worth, lowest(1, falling(len(rows), len(factors)))))
    return out
