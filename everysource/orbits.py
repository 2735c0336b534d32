"""Orbits: all that comes of tells by renaming samples."""

from itertools import permutations

from everysource.polys import arrangements, hung, origin_of, placed, pressed_all, renamed, shape, widened
from everysource.quotients import lowest, summed, times
from everysource.things import as_tuples, is_order_of


def all_orders(n):
    return [order for order in permutations(range(n))]


def one_then(order, later):
    return tuple([later[place] for place in order])


def back(order):
    return origin_of(order)


def renamed_tells(tells, order):
    return renamed_forms(as_tuples(tells), order)


def renamed_forms(tells, order):
    return tuple([renamed(form, order) for form in tells])


def orbit(tells):
    return members(as_tuples(tells))


def members(tells):
    n, _ = shape(tells)
    return tuple(sorted({renamed_forms(tells, order) for order in telling_orders(tells, n)}))


def telling_orders(tells, n):
    """Orders by which all names of the tells come, without many that lead to the same one.

    To exchange alike samples first makes no difference, so it matters only which places the samples
    of each set of alike ones get.
    """
    lots = alike_lots(tells, n)
    labels = [0] * n
    for label, lot in enumerate(lots):
        for sample in lot:
            labels[sample] = label
    return [order_by(names, lots) for names in arrangements(labels)]


def order_by(names, lots):
    """The order that moves the samples of each lot, ascending, to the places that have its number."""
    order = [0] * len(names)
    taken = [0] * len(lots)
    for place, label in enumerate(names):
        order[lots[label][taken[label]]] = place
        taken[label] += 1
    return tuple(order)


def least_name(tells):
    tells = as_tuples(tells)
    n, c = shape(tells)
    least = least_packed(pressed_all(tells))
    # Samples on which nothing hangs stand ahead in the least name: a 0 in front makes powers less.
    ahead = n - len(hung(tells))
    return tuple([placed(form, ahead, 0, c) for form in least])


def least_packed(tells):
    """The least name of tells that hang on all of their samples."""
    n, _ = shape(tells)
    orders = telling_orders(tells, n)
    least = []
    for form in tells:
        names = [renamed(form, order) for order in orders]
        best = min(names)
        orders = [order for name, order in zip(names, orders) if name == best]
        least.append(best)
    return tuple(least)


def keepers(tells, n):
    tells = as_tuples(tells)
    return tuple(renaming_orders(tells, tells, all_orders(n)))


def renaming_orders(tells, other, orders):
    """The list of those of the orders by which tells are renamed to other."""
    tables = tables_of(other)
    return [order for order in orders if comes_to(tells, tables, origin_of(order))]


def tables_of(tells):
    """For each FORM the dict of its FRACTIONS by their powers."""
    return [{powers: x for powers, x in form} for form in tells]


def comes_to(tells, tables, origin):
    """Whether the tells, with the powers of origin[i] at i, have just the pairs of the tables."""
    for form, table in zip(tells, tables):
        if len(form) != len(table):
            return False
        for powers, x in form:
            if table.get(tuple([powers[i] for i in origin])) != x:
                return False
    return True


def alike_samples(tells, n):
    return alike_lots(as_tuples(tells), n)


def alike_lots(tells, n):
    lots = []
    for sample in range(n):
        home = [lot for lot in lots if keeps_exchange(tells, n, lot[0], sample)]
        if home:
            # A sample alike with one of a lot is alike with all of it, and with those of no other.
            lots = [lot + (sample,) if lot == home[0] else lot for lot in lots]
        else:
            lots.append((sample,))
    return lots


def keeps_exchange(tells, n, one, other):
    order = list(range(n))
    order[one], order[other] = other, one
    return renaming_orders(tells, tells, [tuple(order)]) != []


def renaming(tells, other, n):
    tells, tables = as_tuples(tells), tables_of(as_tuples(other))
    for order in all_orders(n):
        if comes_to(tells, tables, origin_of(order)):
            return order
    return None


def is_renaming(tells, other, n, thing):
    if not is_order_of(thing, n):
        return False
    return renaming_orders(as_tuples(tells), as_tuples(other), [thing]) != []


def hung_on(tells):
    return hung(as_tuples(tells))


def filled(tells, n, c):
    return tuple([widened(form, n, c) for form in as_tuples(tells)])


def packed(tells):
    return pressed_all(as_tuples(tells))


def orbit_weights(teller):
    return summed([(least_name(tells), weight) for tells, weight in as_tuples(teller)])


def even_law(teller):
    pairs = []
    for tells, weight in orbit_weights(teller):
        names = members(tells)
        share = times(weight, lowest(1, len(names)))
        pairs.extend([(name, share) for name in names])
    return tuple(sorted(pairs))
