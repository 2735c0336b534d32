"""When means are the same FOR ALL SOURCES, and programs for all numbers of samples at once."""

from itertools import permutations

from everysource.apart import free_source
from everysource.errors import CanNot, Unfit
from everysource.lots import falling, few_lots_of, lot_powers, lots_of
from everysource.polys import plus_powers
from everysource.quotients import ZERO, lowest, summed, times
from everysource.ratios import falling_poly, lowest_ratio, poly_product, ratio_sum, worth
from everysource.sources import is_source
from everysource.things import as_tuples, is_number, is_tuple_of
from everysource.wishes import are_factors, wish_degree, wish_less, wish_moments, wish_of, wish_value


def rows_needed(wish):
    """Brought to one number of factors, by powers all 0, a wish falls into sums over unlike ROWS, one for each lot.

    Where there are fewer ROWS than lots such a sum is 0, and sums of unlike lots never outweigh each other.
    """
    wish = as_tuples(wish)
    if wish == ():
        return None
    many = 1
    while sums_over_lots(wish, many) == ():
        many += 1
    return many


def sums_over_lots(wish, many):
    """Pairs (lots, FRACTION) of the wish brought to one number of factors, with at most so many lots."""
    degree, moments = wish_degree(wish), wish_moments(wish)
    idle = (0,) * len(moments[0]) if moments else ()
    pairs = []
    for factors, x in wish:
        lots_and_counts = few_lots_of(factors + (idle,) * (degree - len(factors)), many)
        pairs.extend([(lots, times(x, (count, 1))) for lots, count in lots_and_counts.items()])
    return summed(pairs)


def showing_source(wish, c):
    wish = as_tuples(wish)
    many = rows_needed(wish)
    if many is None:
        raise CanNot()
    source, k = None, 0
    while source is None or wish_value(wish, source) == ZERO:
        k += 1
        source = free_source(many, c, k)
    return source


def same_mean(form, other):
    return wish_of(form) == wish_of(other)


def parting_source(form, other, c):
    return showing_source(wish_less(wish_of(form), wish_of(other)), c)


def is_parting_source(form, other, c, thing):
    return is_source(thing, c) and wish_value(wish_less(wish_of(form), wish_of(other)), thing) != ZERO


def is_writing(thing, c):
    return isinstance(thing, tuple) and all(is_triple(part, c) for part in thing)


def is_triple(thing, c):
    if not is_tuple_of(thing, 3):
        return False
    kind, factors, ratio = thing
    if not isinstance(kind, str) or kind not in ("any", "unlike") or not are_factors(factors, c):
        return False
    return is_tuple_of(ratio, 2) and all(is_poly(poly) for poly in ratio) and ratio[1] != ()


def is_poly(thing):
    """Whether thing is a tuple of numbers, the last one not 0."""
    if not isinstance(thing, tuple) or not all(is_number(part) for part in thing):
        return False
    return thing == () or thing[-1] != 0


def is_there(writing, n):
    return all(worth(triple[2][1], n) != 0 for triple in as_tuples(writing))


def check_there(writing, n):
    """Raises Unfit if the WRITING is not there at n."""
    if not is_there(writing, n):
        raise Unfit()


def written_form(writing, n, c):
    writing = as_tuples(writing)
    check_there(writing, n)
    pairs = []
    for kind, factors, (top, bottom) in writing:
        x = lowest(worth(top, n), worth(bottom, n))
        names = unlike_powers(factors, n, c) if kind == "unlike" else any_powers(factors, n, c)
        pairs.extend([(powers, x) for powers in names])
    return summed(pairs)


def any_powers(factors, n, c):
    """The list of the powers for all ways to give each factor one of n samples."""
    out = [((0,) * c,) * n]
    for moment in factors:
        out = [powers_with(powers, place, moment) for powers in out for place in range(n)]
    return out


def powers_with(powers, place, moment):
    return powers[:place] + (plus_powers(powers[place], moment),) + powers[place + 1:]


def unlike_powers(factors, n, c):
    """The list of the powers for all ways to give each factor one of n samples of its own."""
    out = []
    for places in permutations(range(n), len(factors)):
        powers = [(0,) * c] * n
        for place, moment in zip(places, factors):
            powers[place] = moment
        out.append(tuple(powers))
    return out


def mean_parts(kind, factors):
    """The list of triples (factors, how many unlike samples, number): what the sum over tuples is on the mean."""
    if kind == "unlike":
        return [(factors, len(factors), 1)]
    return [(lot_powers(lots), len(lots), count) for lots, count in lots_of(factors).items()]


def written_mean(writing, n):
    writing = as_tuples(writing)
    check_there(writing, n)
    pairs = []
    for kind, factors, (top, bottom) in writing:
        x = lowest(worth(top, n), worth(bottom, n))
        for key, many, count in mean_parts(kind, factors):
            pairs.append((key, times(x, (count * falling(n, many), 1))))
    return summed(pairs)


def mean_table(writing):
    table = {}
    for kind, factors, (top, bottom) in as_tuples(writing):
        for key, many, count in mean_parts(kind, factors):
            ratio = lowest_ratio(poly_product(poly_product(top, falling_poly(many)), (count,)), bottom)
            table[key] = ratio_sum(table[key], ratio) if key in table else ratio
    return tuple([(key, table[key]) for key in sorted(table) if table[key][0] != ()])


def same_for_all(one, other):
    return mean_table(one) == mean_table(other)


def first_unlike(one, other):
    if same_for_all(one, other):
        return None
    # Unlike QUOTIENTS are equal at finitely many n only, so one is found.
    n = 0
    while not is_unlike_at(one, other, n):
        n += 1
    return n


def is_unlike_at(one, other, n):
    return is_there(one, n) and is_there(other, n) and written_mean(one, n) != written_mean(other, n)


def right_writing(wish):
    out = []
    for factors, (top, bottom) in as_tuples(wish):
        ratio = lowest_ratio((top,), poly_product(falling_poly(len(factors)), (bottom,)))
        out.append(("unlike", factors, ratio))
    return tuple(out)
