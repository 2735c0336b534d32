"""TOTALS: polynomials in sums over rows, and sums over unlike rows."""

from everysource.errors import CanNot
from everysource.forms import number_form
from everysource.lots import falling, lot_powers, lot_signs, lots_of
from everysource.polys import monomial, placed, product_of, scaled
from everysource.quotients import ONE, ZERO, lowest, plus, summed, times
from everysource.things import are_powers, as_tuples, is_fraction_not_0, is_tuple_of, rises
from everysource.wishes import wish_degree, wish_times


def is_total(thing, c):
    if not isinstance(thing, tuple) or not all(is_total_pair(pair, c) for pair in thing):
        return False
    return rises([factors for factors, _ in thing])


def is_total_pair(thing, c):
    return is_tuple_of(thing, 2) and are_sums(thing[0], c) and is_fraction_not_0(thing[1])


def are_sums(thing, c):
    """Whether thing is a tuple of POWERS, ascending, equal ones side by side."""
    if not isinstance(thing, tuple) or not all(are_powers(powers, c) for powers in thing):
        return False
    return all(low <= high for low, high in zip(thing, thing[1:]))


def total_at(total, rows):
    rows = as_tuples(rows)
    sums, out = {}, ZERO
    for factors, x in as_tuples(total):
        for powers in factors:
            if powers not in sums:
                sums[powers] = sum_by(powers, rows)
            x = times(x, sums[powers])
        out = plus(out, x)
    return out


def sum_by(powers, rows):
    out = ZERO
    for row in rows:
        out = plus(out, monomial(row, powers))
    return out


def unlike_at(total, rows):
    return total_at(from_unlike(total), rows)


def plus_totals(total, other):
    return summed(as_tuples(total) + as_tuples(other))


def times_totals(total, other):
    return wish_times(total, other)


def scaled_total(total, x):
    return scaled(as_tuples(total), as_tuples(x))


def in_unlike(total):
    pairs = []
    for factors, x in as_tuples(total):
        pairs.extend([(lot_powers(lots), times(x, (count, 1))) for lots, count in lots_of(factors).items()])
    return summed(pairs)


def from_unlike(total):
    pairs = []
    for factors, x in as_tuples(total):
        for lots, count in lots_of(factors).items():
            pairs.append((lot_powers(lots), times(x, (count * lot_signs(lots), 1))))
    return summed(pairs)


def form_of(total, n, c):
    pairs = []
    for factors, x in as_tuples(total):
        form = number_form(n, c, x)
        for powers in factors:
            form = product_of(form, sum_form(powers, n, c))
        pairs.extend(form)
    return summed(pairs)


def sum_form(powers, n, c):
    """The FORM of the sum by these powers of n samples."""
    return summed([(placed((((powers,), ONE),), place, n - place - 1, c)[0][0], ONE) for place in range(n)])


def right_value(wish, rows):
    if wish_degree(wish) > len(rows):
        raise CanNot()
    out = ZERO
    for factors, x in as_tuples(wish):
        worth = unlike_at(((factors, x),), rows)
        out = plus(out, times(worth, lowest(1, falling(len(rows), len(factors)))))
    return out
