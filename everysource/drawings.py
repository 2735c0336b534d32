"""All drawings of a SOURCE, one by one, and what is told there."""

from everysource.errors import NoPlace, TooMuch
from everysource.forms import is_form
from everysource.quotients import ONE, ZERO, by_quotients, less, plus, times, total
from everysource.sources import moment_at
from everysource.tables import chance_table, linked_pair, parts_table, single
from everysource.things import as_tuples, is_fraction_above_0, is_tuple_of, rises

MOST_DRAWINGS = 8000


def is_law(thing, n, c):
    if not isinstance(thing, tuple) or thing == () or not is_tuple_of(thing[0], 2):
        return False
    first = thing[0][0]
    if not isinstance(first, tuple) or first == ():
        return False
    if not all(is_weighted(pair, n, c, len(first)) for pair in thing):
        return False
    return rises([tells for tells, _ in thing]) and total([weight for _, weight in thing]) == ONE


def is_weighted(thing, n, c, many):
    """Whether thing is a pair of so many FORMS and a weight."""
    if not is_tuple_of(thing, 2) or not is_tuple_of(thing[0], many):
        return False
    return all(is_form(form, n, c) for form in thing[0]) and is_fraction_above_0(thing[1])


def check_drawings(source, n):
    """Raises TooMuch if there are more drawings than are gone through."""
    many = 1
    # One ROW alone has one drawing, however many samples.
    for _ in range(n if len(source) > 1 else 0):
        many = many * len(source)
        if many > MOST_DRAWINGS:
            raise TooMuch()


def drawings(source, n):
    check_drawings(source, n)
    out = [((), ONE)]
    source = as_tuples(source)
    for _ in range(n):
        out = [(rows + (row,), times(chance, share)) for rows, chance in out for row, share in source]
    return out


def told_chances(teller, source, n):
    check_drawings(source, n)
    table = chance_table(as_tuples(teller), as_tuples(source))
    return tuple([(numbers, table[numbers]) for numbers in by_quotients(list(table))])


def chance_told(teller, source, n, numbers):
    check_drawings(source, n)
    return chance_table(as_tuples(teller), as_tuples(source)).get(as_tuples(numbers), ZERO)


def form_mean(form, source, n):
    check_drawings(source, n)
    return mean_of(as_tuples(form), as_tuples(source))


def mean_of(form, source):
    """The mean of the value, unlike samples being independent."""
    means = {}
    out = ZERO
    for powers, x in form:
        for own in powers:
            if own not in means:
                means[own] = moment_at(source, own)
            x = times(x, means[own])
        out = plus(out, x)
    return out


def form_spread(form, source, n):
    check_drawings(source, n)
    form, source = as_tuples(form), as_tuples(source)
    own = (0, mean_of(form, source))
    return together(chance_table(single((form,)), source), own, own)


def forms_together(form, other, source, n):
    check_drawings(source, n)
    form, other, source = as_tuples(form), as_tuples(other), as_tuples(source)
    table = chance_table(single((form, other)), source)
    return together(table, (0, mean_of(form, source)), (1, mean_of(other, source)))


def together(table, one, other):
    """The mean of the product of what the numbers at two places are off their means."""
    (place, mean), (far, far_mean) = one, other
    parts = []
    for numbers, chance in table.items():
        off = times(less(numbers[place], mean), less(numbers[far], far_mean))
        parts.append(times(chance, off))
    return total(parts)


def law_means(teller, source, n):
    check_drawings(source, n)
    return means_of(as_tuples(teller), as_tuples(source))


def means_of(teller, source):
    means = []
    for place in range(len(teller[0][0])):
        means.append(total([times(weight, mean_of(tells[place], source)) for tells, weight in teller]))
    return tuple(means)


def law_spreads(teller, source, n):
    check_drawings(source, n)
    teller, source = as_tuples(teller), as_tuples(source)
    table = chance_table(teller, source)
    return tuple([together(table, own, own) for own in enumerate(means_of(teller, source))])


def are_apart_at(teller, source, n, lot, others):
    check_drawings(source, n)
    teller = as_tuples(teller)
    check_places(teller, lot, others)
    table = chance_table(teller, as_tuples(source))
    return linked_pair(parts_table(table, lot, others)) is None


def check_places(teller, lot, others):
    """Raises NoPlace for the first that is no place of a tell, in lot, then in others."""
    for place in list(lot) + list(others):
        if not 0 <= place < len(teller[0][0]):
            raise NoPlace(place)
