"""WISHES: what is wished to be told, sums of products of means of MOMENTS."""

from math import comb

from everysource.errors import NoPlace, Unfit
from everysource.polys import plus_powers, scaled
from everysource.quotients import ONE, ZERO, plus, summed, times
from everysource.sources import moment_at
from everysource.things import are_powers, as_tuples, is_fraction_not_0, is_order_of, is_tuple_of, rises


def is_moment(thing, c):
    return are_powers(thing, c) and any(thing)


def is_wish(thing, c):
    if not isinstance(thing, tuple) or not all(is_wish_pair(pair, c) for pair in thing):
        return False
    return rises([factors for factors, _ in thing])


def is_wish_pair(thing, c):
    return is_tuple_of(thing, 2) and are_factors(thing[0], c) and is_fraction_not_0(thing[1])


def are_factors(thing, c):
    """Whether thing is a tuple of MOMENTS, ascending, equal ones side by side."""
    if not isinstance(thing, tuple) or not all(is_moment(moment, c) for moment in thing):
        return False
    return all(low <= high for low, high in zip(thing, thing[1:]))


def made_wish(pairs):
    return summed([(tuple(sorted(factors)), x) for factors, x in as_tuples(pairs)])


def wish_value(wish, source):
    source = as_tuples(source)
    means = {}
    out = ZERO
    for factors, x in as_tuples(wish):
        for moment in factors:
            if moment not in means:
                means[moment] = moment_at(source, moment)
            x = times(x, means[moment])
        out = plus(out, x)
    return out


def wish_degree(wish):
    return max([len(factors) for factors, _ in wish], default=0)


def wish_moments(wish):
    return tuple(sorted({moment for factors, _ in as_tuples(wish) for moment in factors}))


def wish_columns(wish):
    return tuple(sorted({column for own in wish_moments(wish) for column, k in enumerate(own) if k > 0}))


def wish_plus(one, other):
    return summed(as_tuples(one) + as_tuples(other))


def wish_less(one, other):
    return summed(as_tuples(one) + scaled(as_tuples(other), (-1, 1)))


def wish_times(one, other):
    one, other = as_tuples(one), as_tuples(other)
    return made_wish([(factors + more, times(x, y)) for factors, x in one for more, y in other])


def wish_scaled(wish, x):
    return scaled(as_tuples(wish), as_tuples(x))


def wish_renamed(wish, order):
    wish, order = as_tuples(wish), as_tuples(order)
    moments = wish_moments(wish)
    if not is_order_of(order, len(moments[0]) if moments else len(order)):
        raise Unfit()
    return made_wish([(tuple([moved(moment, order) for moment in factors]), x) for factors, x in wish])


def moved(moment, order):
    """The MOMENT with the power at column k at column order[k]."""
    out = [0] * len(order)
    for power, column in zip(moment, order):
        out[column] = power
    return tuple(out)


def joined_moment(moment, other):
    return plus_powers(moment, other)


def joint_spread(moment, other):
    moment, other = as_tuples(moment), as_tuples(other)
    return made_wish([((joined_moment(moment, other),), ONE), ((moment, other), (-1, 1))])


def mean_wish(moment, many):
    """The WISH of the mean of the number of the MOMENT to the power many, from 0."""
    if many == 0:
        return (((), ONE),)
    return (((tuple([k * many for k in moment]),), ONE),)


def central(moment, many):
    moment = as_tuples(moment)
    out = ()
    for k in range(many + 1):
        ways = comb(many, k)
        off = ((moment,) * (many - k), (ways if (many - k) & 1 == 0 else -ways, 1))
        out = wish_plus(out, wish_times(mean_wish(moment, k), (off,)))
    return out


def cumulant(moment, many):
    moment = as_tuples(moment)
    out = mean_wish(moment, many)
    for j in range(1, many):
        part = wish_times(cumulant(moment, j), mean_wish(moment, many - j))
        out = wish_less(out, wish_scaled(part, (comb(many - 1, j - 1), 1)))
    return out


def wish_of(form):
    return made_wish([(tuple([own for own in powers if any(own)]), x) for powers, x in as_tuples(form)])


def law_wish(teller, place):
    teller = as_tuples(teller)
    if not 0 <= place < len(teller[0][0]):
        raise NoPlace(place)
    out = ()
    for tells, weight in teller:
        out = wish_plus(out, wish_scaled(wish_of(tells[place]), weight))
    return out


def is_right(teller, wish):
    return law_wish(teller, 0) == as_tuples(wish)
