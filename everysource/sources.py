"""SOURCES: ROWS of FRACTIONS with their chances."""

from everysource.errors import NoPlace, Unfit
from everysource.polys import monomial
from everysource.quotients import (
    ONE, ZERO, by_quotients, is_below, is_row_below, less, lowest, over, plus, sums_by_key, times, total,
)
from everysource.things import are_fractions, as_tuples, is_fraction_above_0, is_tuple_of


def is_source(thing, c):
    if not isinstance(thing, tuple) or thing == () or not all(is_row_chance(pair, c) for pair in thing):
        return False
    rows = [row for row, _ in thing]
    if not all(is_row_below(row, later) for row, later in zip(rows, rows[1:])):
        return False
    return total([chance for _, chance in thing]) == ONE


def is_row_chance(thing, c):
    return is_tuple_of(thing, 2) and are_fractions(thing[0], c) and is_fraction_above_0(thing[1])


def ranked(pairs):
    """The pairs (ROW, chance) as a SOURCE: equal ROWS once, without those of chance 0."""
    sums = sums_by_key(pairs)
    return tuple([(row, sums[row]) for row in by_quotients(list(sums)) if sums[row][0] != 0])


def source_of(pairs):
    pairs = as_tuples(pairs)
    if not pairs or not all(is_fraction_above_0(x) for _, x in pairs):
        raise Unfit()
    whole = total([x for _, x in pairs])
    return ranked([(row, over(x, whole)) for row, x in pairs])


def even_source(rows):
    share = lowest(1, len(rows))
    return ranked([(row, share) for row in as_tuples(rows)])


def chance_of(source, row):
    row = as_tuples(row)
    for own, chance in as_tuples(source):
        if own == row:
            return chance
    return ZERO


def moment_at(source, moment):
    return total([times(chance, monomial(row, moment)) for row, chance in as_tuples(source)])


def mixed_source(source, other, share):
    share = as_tuples(share)
    if is_below(share, ZERO) or is_below(ONE, share):
        raise Unfit()
    stay = less(ONE, share)
    pairs = [(row, times(stay, chance)) for row, chance in as_tuples(source)]
    return ranked(pairs + [(row, times(share, chance)) for row, chance in as_tuples(other)])


def check_column(source, column):
    """Raises NoPlace if the ROWS of source have no such column."""
    if not 0 <= column < len(source[0][0]):
        raise NoPlace(column)


def shown_source(source, columns):
    for column in columns:
        check_column(source, column)
    return ranked([(tuple([row[k] for k in columns]), chance) for row, chance in as_tuples(source)])


def unlinked_source(source):
    source = as_tuples(source)
    pairs = [((), ONE)]
    for column in range(len(source[0][0])):
        alone = shown_source(source, (column,))
        pairs = [(row + own, times(chance, share)) for row, chance in pairs for own, share in alone]
    return ranked(pairs)


def moved_source(source, column, x, y):
    source, x, y = as_tuples(source), as_tuples(x), as_tuples(y)
    check_column(source, column)
    return ranked([(moved_row(row, column, x, y), chance) for row, chance in source])


def moved_row(row, column, x, y):
    return row[:column] + (plus(times(x, row[column]), y),) + row[column + 1:]
