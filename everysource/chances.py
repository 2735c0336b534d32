"""TELLERS with the same chances FOR ALL SOURCES, and SOURCES that show where they are not."""

from everysource.errors import CanNot
from everysource.forms import fits, kind_samples
from everysource.freerows import free_rows
from everysource.orbits import filled, least_name, members, orbit_weights
from everysource.polys import hung, pressed_all, scaled, shape
from everysource.quotients import ONE, ZERO, less, summed
from everysource.sources import even_source, is_source
from everysource.tables import chance_table
from everysource.things import are_fractions, as_tuples, is_tuple_of

MOST_ROWS = 6


def sizes(teller):
    """The counts of samples and of columns of a TELLER, 0 where it does not show them."""
    return shape([form for tells, _ in teller for form in tells])


def joint_sizes(teller, other):
    (n, c), (many, far) = sizes(teller), sizes(other)
    return (max(n, many), max(c, far))


def filled_law(teller, n, c):
    return summed([(filled(tells, n, c), weight) for tells, weight in teller])


def difference(teller, other):
    """Pairs (tells, weight), those of teller, and those of other with weights below 0."""
    return teller + scaled(other, (-1, 1))


def chance_gap(teller, other, source, told):
    pairs = difference(as_tuples(teller), as_tuples(other))
    return chance_table(pairs, as_tuples(source)).get(as_tuples(told), ZERO)


def name_weights(pairs):
    """The weights of the tells by their least names, without samples on which they do not hang."""
    return summed([(least_name(pressed_all(tells)), weight) for tells, weight in pairs])


def same_chances(teller, other):
    return name_weights(as_tuples(teller)) == name_weights(as_tuples(other))


def parting(teller, other):
    teller, other = as_tuples(teller), as_tuples(other)
    gaps = name_weights(difference(teller, other))
    if gaps == ():
        return None
    c = max(joint_sizes(teller, other)[1], 1)
    most = max([len(hung(tells)) for tells, _ in gaps] + [1])
    for many in range(1, most):
        found = gap_at(gaps, even_source(free_rows(many, c, 1)))
        if found is not None:
            return found
    # With so many ROWS the names that hang on most samples come of no others, if values tell them apart.
    found, k = None, 0
    while found is None:
        k += 1
        found = gap_at(gaps, even_source(free_rows(most, c, k)))
    return found


def gap_at(gaps, source):
    """The SOURCE with the least told that has a chance other than 0 by the weights, or None."""
    table = chance_table(gaps, source)
    told = min([numbers for numbers, chance in table.items() if chance[0] != 0], default=None)
    return None if told is None else (source, told)


def is_parting(teller, other, thing):
    if not is_tuple_of(thing, 2):
        return False
    teller, other = as_tuples(teller), as_tuples(other)
    source, told = thing
    n, c = joint_sizes(teller, other)
    if not is_source_for(source, c) or len(source) > max(n, MOST_ROWS):
        return False
    return are_fractions(told, len(teller[0][0])) and chance_gap(teller, other, source, told) != ZERO


def is_source_for(thing, c):
    """Whether thing is a SOURCE for c columns, for any columns if c is 0: if FORMS do not show them."""
    return is_source(thing, c if c > 0 else columns_in(thing))


def columns_in(thing):
    """The count of columns if thing is a SOURCE, otherwise any number from 1."""
    if isinstance(thing, tuple) and thing != () and is_tuple_of(thing[0], 2) and isinstance(thing[0][0], tuple):
        return max(len(thing[0][0]), 1)
    return 1


def fewest_samples(teller):
    return max([len(hung(tells)) for tells, _ in as_tuples(teller)])


def narrow_law(teller):
    teller = as_tuples(teller)
    n, c = fewest_samples(teller), sizes(teller)[1]
    return orbit_weights(filled_law([(pressed_all(tells), weight) for tells, weight in teller], n, c))


def alone(teller, places):
    pairs = as_tuples(teller)
    return summed([(tuple([tells[place] for place in places]), weight) for tells, weight in pairs])


def mixed(teller, other, share):
    teller, other, share = as_tuples(teller), as_tuples(other), as_tuples(share)
    n, c = joint_sizes(teller, other)
    one = scaled(filled_law(teller, n, c), less(ONE, share))
    return summed(one + scaled(filled_law(other, n, c), share))


def fitting_names(tells, kinds, c):
    tells = pressed_all(as_tuples(tells))
    n = len(kind_samples(kinds))
    if len(hung(tells)) > n:
        return ()
    return tuple([name for name in members(filled(tells, n, c)) if all(fits(form, kinds) for form in name)])


def law_fits(teller, kinds):
    return all(fits(form, kinds) for tells, _ in teller for form in tells)


def shown_law(teller, kinds, c):
    pairs = []
    for tells, weight in as_tuples(teller):
        names = fitting_names(tells, kinds, c)
        if names == ():
            raise CanNot()
        pairs.append((names[0], weight))
    return summed(pairs)
