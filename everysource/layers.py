"""What the spread of the best program consists of, and when it can be told."""

from itertools import combinations
from math import comb

from everysource.apart import free_source
from everysource.best import best_program
from everysource.errors import CanNot, NoPlace
from everysource.polys import placed, product_of
from everysource.quotients import is_below, lowest, summed, times, total
from everysource.shifts import is_mix_of, wish_powers
from everysource.sources import moment_at
from everysource.things import as_tuples
from everysource.wishes import wish_degree, wish_moments, wish_of, wish_plus, wish_scaled, wish_value


def check_place(wish, k, first):
    """Raises NoPlace if k is not from the first one to the degree of wish."""
    if not first <= k <= wish_degree(wish):
        raise NoPlace(k)


def full_program(wish, c):
    """The best program of as many samples as the degree of wish."""
    return best_program(wish, wish_degree(wish), c)


def shared_mean(wish, k):
    check_place(wish, k, 0)
    degree, moments = wish_degree(wish), wish_moments(wish)
    c = len(moments[0]) if moments else 1
    form, further = full_program(wish, c), degree - k
    return wish_of(product_of(placed(form, 0, further, c), placed(form, further, 0, c)))


def layer(wish, k):
    check_place(wish, k, 1)
    out = ()
    for j in range(k + 1):
        ways = comb(k, j) if (k - j) & 1 == 0 else -comb(k, j)
        out = wish_plus(out, wish_scaled(shared_mean(wish, j), (ways, 1)))
    return out


def part_form(wish, source, k):
    check_place(wish, k, 0)
    source = as_tuples(source)
    c = len(source[0][0])
    form = full_program(wish, c)
    pairs = []
    for size in range(k + 1):
        sign = (1, 1) if (k - size) & 1 == 0 else (-1, 1)
        known = mean_behind(form, source, size)
        for lot in combinations(range(k), size):
            pairs.extend([(spread_out(powers, lot, k, c), times(x, sign)) for powers, x in known])
    return summed(pairs)


def mean_behind(form, source, many):
    """The FORM for so many samples that form is on the mean if the others are drawn."""
    means = {}
    pairs = []
    for powers, x in form:
        for own in powers[many:]:
            if own not in means:
                means[own] = moment_at(source, own)
            x = times(x, means[own])
        pairs.append((powers[:many], x))
    return summed(pairs)


def spread_out(powers, lot, k, c):
    """The powers of k samples that are these at the samples of lot, in order."""
    out = [(0,) * c] * k
    for own, sample in zip(powers, lot):
        out[sample] = own
    return tuple(out)


def layers_at(wish, source):
    return [wish_value(layer(wish, k), source) for k in range(1, wish_degree(wish) + 1)]


def layer_shares(wish, n):
    degree = wish_degree(wish)
    if n < degree:
        raise CanNot()
    return [lowest(comb(degree, k) * comb(degree, k), comb(n, k)) for k in range(1, degree + 1)]


def best_spread(wish, n):
    out = ()
    for place, share in enumerate(layer_shares(wish, n)):
        out = wish_plus(out, wish_scaled(layer(wish, place + 1), share))
    return out


def enough_samples(wish, source, most):
    most, worths = as_tuples(most), layers_at(wish, source)
    # Layers are not below 0, so that more samples never make the spread greater.
    low = high = wish_degree(wish)
    while not is_enough(wish, worths, high, most):
        low, high = high + 1, 2 * high
    while low < high:
        middle = (low + high) // 2
        if is_enough(wish, worths, middle, most):
            high = middle
        else:
            low = middle + 1
    return low


def is_enough(wish, worths, n, most):
    """Whether the spread for n samples, worths being the values of the layers, is not above most."""
    parts = [times(share, worth) for share, worth in zip(layer_shares(wish, n), worths)]
    return not is_below(most, total(parts))


def own_spread(wish, n, c):
    if n < 2 * wish_degree(wish):
        raise CanNot()
    return best_program(best_spread(wish, n), n, c)


def has_spread_papers(wish, n):
    degree = wish_degree(wish)
    return degree <= n < 2 * degree


def spread_paper(wish, n, c):
    """A MIX of one ROW with more and more free ROWS: twice the degree of wish are enough, if free enough."""
    if not has_spread_papers(wish, n):
        raise CanNot()
    spread = best_spread(wish, n)
    k = 1
    while not rises_above(free_pair(wish, c, k), spread, n):
        k += 1
    return free_pair(wish, c, k)


def free_pair(wish, c, k):
    many = min(k, 2 * wish_degree(wish))
    source = free_source(many + 1, c, k - many + 1)
    return (free_source(1, c, k - many + 1), source)


def rises_above(mix, wish, n):
    """Whether wish has a power of t above n along the MIX."""
    return len(wish_powers(mix, wish)) - 1 > n


def is_spread_paper(wish, n, c, thing):
    if not has_spread_papers(wish, n) or not is_mix_of(thing, c):
        return False
    return rises_above(thing, best_spread(wish, n), n)
