"""FORMS: polynomials in the numbers of samples. KINDS: which columns samples show."""

from everysource.errors import NoPlace, Unfit
from everysource.polys import arrangements, hung, placed, pressed_all, product_of, renamed, scaled, value_at, widened
from everysource.quotients import ONE, lowest, summed, times
from everysource.things import are_powers, as_tuples, is_fraction_not_0, is_number, is_order_of, is_tuple_of, rises


def is_form(thing, n, c):
    if not isinstance(thing, tuple) or not all(is_form_pair(pair, n, c) for pair in thing):
        return False
    return rises([pair[0] for pair in thing])


def is_form_pair(thing, n, c):
    if not is_tuple_of(thing, 2) or not is_tuple_of(thing[0], n):
        return False
    return all(are_powers(own, c) for own in thing[0]) and is_fraction_not_0(thing[1])


def sample_form(n, c, sample, column):
    if not 0 <= sample < n:
        raise NoPlace(sample)
    if not 0 <= column < c:
        raise NoPlace(column)
    own = tuple([1 if k == column else 0 for k in range(c)])
    return placed((((own,), ONE),), sample, n - sample - 1, c)


def number_form(n, c, x):
    x = as_tuples(x)
    if x[0] == 0:
        return ()
    return placed((((), x),), n, 0, c)


def form_at(form, rows):
    return value_at(as_tuples(form), as_tuples(rows))


def plus_forms(form, other):
    return summed(as_tuples(form) + as_tuples(other))


def times_forms(form, other):
    return product_of(as_tuples(form), as_tuples(other))


def scaled_form(form, x):
    return scaled(as_tuples(form), as_tuples(x))


def form_degree(form):
    return max([sum([sum(own) for own in powers]) for powers, _ in form], default=0)


def samples_of(form):
    return hung((as_tuples(form),))


def columns_of(form, sample):
    found = {}
    for powers, _ in form:
        own = powers[sample] if 0 <= sample < len(powers) else ()
        for column, k in enumerate(own):
            if k > 0:
                found[column] = True
    return tuple(sorted(found))


def renamed_form(form, order):
    form, order = as_tuples(form), as_tuples(order)
    n = len(form[0][0]) if form else len(order)
    if not is_order_of(order, n):
        raise Unfit()
    return renamed(form, order)


def is_even(form):
    form = as_tuples(form)
    n = len(form[0][0]) if form else 0
    # All orders come of exchanging neighbours.
    return all(renamed(form, exchange(n, place)) == form for place in range(n - 1))


def exchange(n, place):
    """The order of n samples that exchanges the one at place with the next one."""
    return tuple(range(place)) + (place + 1, place) + tuple(range(place + 2, n))


def evened(form):
    alike = summed([(tuple(sorted(powers)), x) for powers, x in as_tuples(form)])
    pairs = []
    for powers, x in alike:
        names = arrangements(powers)
        share = times(x, lowest(1, len(names)))
        pairs.extend([(name, share) for name in names])
    return tuple(sorted(pairs))


def wider_form(form, n, c):
    return widened(as_tuples(form), n, c)


def pressed_form(form):
    return pressed_all((as_tuples(form),))[0]


def fits(form, kinds):
    shown = kind_samples(kinds)
    return all(fits_shown(powers, shown) for powers, _ in form)


def fits_shown(powers, shown):
    """Whether powers are for as many samples as shown and use only columns that these show."""
    if len(powers) != len(shown):
        return False
    return all(uses_only(own, seen) for own, seen in zip(powers, shown))


def uses_only(own, seen):
    return all(k == 0 or column in seen for column, k in enumerate(own))


def is_kinds(thing, c):
    if not isinstance(thing, tuple) or thing == () or not all(is_kind(pair, c) for pair in thing):
        return False
    return rises([pair[0] for pair in thing])


def is_kind(thing, c):
    if not is_tuple_of(thing, 2):
        return False
    seen, number = thing
    return is_seen(seen, c) and is_number(number) and number >= 1


def is_seen(thing, c):
    """Whether thing is a tuple, not (), of columns, ascending."""
    if not isinstance(thing, tuple) or thing == ():
        return False
    return all(is_number(column) and 0 <= column < c for column in thing) and rises(thing)


def kind_samples(kinds):
    return tuple([seen for seen, number in as_tuples(kinds) for _ in range(number)])
