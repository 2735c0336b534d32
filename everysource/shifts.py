"""Mixes of two SOURCES: which samples feel them, and which wishes."""

from everysource.errors import CanNot, Unfit
from everysource.forms import kind_samples
from everysource.freerows import free_chances, free_rows
from everysource.quotients import ONE, ZERO, less, plus, times
from everysource.seats import first_lacking, showers
from everysource.sources import even_source, is_source, moment_at, ranked, shown_source
from everysource.things import as_tuples, is_tuple_of
from everysource.wishes import wish_columns, wish_degree, wish_moments, wish_of, wish_value


def is_mix_of(thing, c):
    return is_tuple_of(thing, 2) and all(is_source(part, c) for part in thing)


def alike_in(source, other, seen):
    return shown_source(source, seen) == shown_source(other, seen)


def feeling(kinds, mix):
    source, other = as_tuples(mix)
    shown = kind_samples(kinds)
    felt = {seen: not alike_in(source, other, seen) for seen in shown}
    return tuple([sample for sample, seen in enumerate(shown) if felt[seen]])


def wish_powers(mix, wish):
    source, other = as_tuples(mix)
    lines = {}
    for moment in wish_moments(wish):
        first = moment_at(source, moment)
        lines[moment] = (first, less(moment_at(other, moment), first))
    out = []
    for factors, x in as_tuples(wish):
        poly = [x]
        for moment in factors:
            poly = times_line(poly, lines[moment])
        out = joint_sum(out, poly)
    return without_0s(out)


def times_line(poly, line):
    """The list of FRACTIONS by powers of t of the product of poly and line[0] + line[1] t."""
    start, step = line
    stay = [times(x, start) for x in poly] + [ZERO]
    rise = [ZERO] + [times(x, step) for x in poly]
    return joint_sum(stay, rise)


def joint_sum(one, other):
    many = max(len(one), len(other))
    left = one + [ZERO] * (many - len(one))
    right = other + [ZERO] * (many - len(other))
    return [plus(x, y) for x, y in zip(left, right)]


def without_0s(poly):
    """The tuple of the FRACTIONS without 0s at its end."""
    many = len(poly)
    while many > 0 and poly[many - 1] == ZERO:
        many -= 1
    return tuple(poly[:many])


def form_powers(mix, form):
    return wish_powers(mix, wish_of(form))


def moves(mix, moments):
    source, other = as_tuples(mix)
    return [less(moment_at(other, moment), moment_at(source, moment)) for moment in as_tuples(moments)]


def corner_mix(low, high, seen):
    low, high = as_tuples(low), as_tuples(high)
    if any(low[column] == high[column] for column in seen):
        raise Unfit()
    evens, odds = [low], []
    for column in seen:
        turned = [row_with(row, high, column) for row in evens]
        evens = evens + [row_with(row, high, column) for row in odds]
        odds = odds + turned
    return (even_source(evens), even_source(odds))


def row_with(row, other, column):
    """The row with the number of the other one in this column."""
    return row[:column] + (other[column],) + row[column + 1:]


def joined_mix(mixes, weights):
    mixes, weights = as_tuples(mixes), as_tuples(weights)
    first = joined_source([mix[0] for mix in mixes], weights)
    return (first, joined_source([mix[1] for mix in mixes], weights))


def joined_source(sources, weights):
    pairs = []
    for source, weight in zip(sources, weights):
        pairs.extend([(row, times(weight, chance)) for row, chance in source])
    return ranked(pairs)


def is_shift(kinds, wish, thing):
    moments = wish_moments(wish)
    # Without MOMENTS no power of t comes of the wish, let alone too high a one.
    if not moments or not is_mix_of(thing, len(moments[0])):
        return False
    return len(wish_powers(thing, wish)) - 1 > len(feeling(kinds, thing))


def shift(kinds, wish):
    """What samples show that show nothing of a LACKING LOT stays as it is; what they do not show moves freely.

    So only the few samples that show something of the lot feel the mix, but all of its factors move: there
    is a power of t as high as the most factors in one pair that move.
    """
    place, lot = first_lacking(kinds, wish)
    wish = as_tuples(wish)
    lacked = [wish[place][0][own] for own in lot]
    blind = [seen for seen in kind_samples(kinds) if not any(showers((seen,), moment) for moment in lacked)]
    columns = moving_columns(blind, wish)
    mix, k = free_mix(columns, wish, 1), 1
    while not is_shift(kinds, wish, mix):
        k += 1
        mix = free_mix(columns, wish, k)
    return mix


def moving_columns(blind, wish):
    """The sets of columns that are used by those MOMENTS of wish that none of blind shows."""
    moments = [moment for moment in wish_moments(wish) if not showers(tuple(blind), moment)]
    return tuple(sorted({wish_columns((((moment,), ONE),)) for moment in moments}))


def free_mix(columns, wish, k):
    """A mix of free corner mixes for each of these sets of columns, more of them and freer ones the greater k is.

    As many for each as the degree of wish are enough for what comes of a wish along all mixes of such
    mixes, powers of primes [freerows] being great enough.
    """
    many = min(k, wish_degree(wish))
    c, count = len(wish_moments(wish)[0]), many * len(columns)
    rows = free_rows(2 * count, c, k - many + 1)
    mixes = []
    for place in range(count):
        mixes.append(corner_mix(rows[2 * place], rows[2 * place + 1], columns[place // many]))
    return joined_mix(mixes, free_chances(count, 2 * c, k - many + 1))


def blind_shift(kinds, wish):
    if unshown(kinds, wish) == ():
        raise CanNot()
    wish = as_tuples(wish)
    columns = moving_columns(kind_samples(kinds), wish)
    mix, k = free_mix(columns, wish, 1), 1
    while wish_value(wish, mix[0]) == wish_value(wish, mix[1]):
        k += 1
        mix = free_mix(columns, wish, k)
    return mix


def unshown(kinds, wish):
    shown = kind_samples(kinds)
    return tuple([moment for moment in wish_moments(wish) if not showers(shown, moment)])
