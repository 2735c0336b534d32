"""Which of the programs that are right has the least spread, if samples show all columns."""

from everysource.drawings import mean_of
from everysource.errors import CanNot, Unfit
from everysource.forms import evened, exchange, is_even
from everysource.freerows import free_rows
from everysource.means import same_mean
from everysource.polys import arrangements, joined_powers, product_of, renamed, scaled, shape
from everysource.quotients import ZERO, is_below, lowest, over, summed, times
from everysource.sources import even_source
from everysource.things import as_tuples
from everysource.wishes import wish_degree, wish_less, wish_of, wish_times


def spread_wish(form):
    mean = wish_of(form)
    return wish_less(joint_wish(form, form), wish_times(mean, mean))


def joint_wish(form, other):
    return wish_of(joint_form(as_tuples(form), as_tuples(other)))


def joint_form(form, other):
    """A FORM with the mean of the product of both.

    If one of them is even, it makes no difference which names the powers in the other one have: so equal
    names are added up first, and what has very many names is multiplied by few.
    """
    if is_even(other):
        return product_of(least_names(form), other)
    if is_even(form):
        return product_of(least_names(other), form)
    return product_of(form, other)


def least_names(form):
    """The FORM with the least of their names for all powers."""
    return summed([(tuple(sorted(powers)), x) for powers, x in form])


def excess(form):
    # evened(form) has the mean of form, and is off the difference on the mean, so only squares are left.
    return wish_less(joint_wish(form, form), even_square(as_tuples(form)))


def even_square(form):
    """The WISH of the mean of the square of evened(form), which may have too many pairs to be multiplied out."""
    alike = least_names(form)
    pairs = []
    for place, (powers, x) in enumerate(alike):
        for far, (other, y) in enumerate(alike[:place + 1]):
            meetings = meeting_counts(powers, other)
            ways = sum([count for _, count in meetings])
            share = times(times(x, y), lowest(1 if far == place else 2, ways))
            pairs.extend([(joined, times(share, (count, 1))) for joined, count in meetings])
    return wish_of(pairs)


def meeting_counts(powers, other):
    """The list of what comes of powers times other in all arrangements, samples in order, with how often."""
    counts = {}
    for name in arrangements(other):
        joined = tuple(sorted(joined_powers(powers, name)))
        counts[joined] = counts.get(joined, 0) + 1
    return list(counts.items())


def best_program(wish, n, c):
    wish = as_tuples(wish)
    if wish_degree(wish) > n:
        raise CanNot()
    none = (0,) * c
    return evened([(factors + (none,) * (n - len(factors)), x) for factors, x in wish])


def beats(form, other, source):
    if not same_mean(form, other):
        return False
    source = as_tuples(source)
    return is_below(mean_square(as_tuples(form), source), mean_square(as_tuples(other), source))


def mean_square(form, source):
    return mean_of(joint_form(form, form), source)


def worse_source(form):
    """Where form changes if samples are exchanged it is off evened(form), which does not change.

    It does so for as many ROWS as samples, if these are free enough [freerows], and often for fewer.
    """
    form = as_tuples(form)
    if is_even(form):
        raise CanNot()
    n, c = shape((form,))
    changes = [step_to(form, renamed(form, exchange(n, place))) for place in range(n - 1)]
    source, k = even_source(free_rows(2, c, 1)), 2
    while all(mean_square(change, source) == ZERO for change in changes):
        k += 1
        source = even_source(free_rows(min(k, n), c, max(1, k - n + 1)))
    return source


def step_to(form, other):
    """The FORM that is other less form."""
    return summed(other + scaled(form, (-1, 1)))


def best_mix(form, other, source):
    if not same_mean(form, other):
        raise Unfit()
    form, source = as_tuples(form), as_tuples(source)
    step = step_to(form, as_tuples(other))
    bottom = mean_square(step, source)
    if bottom == ZERO:
        return ZERO
    # The step has the mean 0, so that products alone tell what goes together.
    return times((-1, 1), over(mean_of(joint_form(form, step), source), bottom))


def check_one_tell(teller):
    """Raises Unfit if the TELLER tells more than one number."""
    if len(teller[0][0]) > 1:
        raise Unfit()


def dice_mean(teller):
    check_one_tell(teller)
    pairs = []
    for tells, weight in as_tuples(teller):
        pairs.extend(scaled(tells[0], weight))
    return summed(pairs)


def dice_excess(teller):
    mean = dice_mean(teller)
    pairs = []
    for tells, weight in as_tuples(teller):
        pairs.extend(scaled(joint_wish(tells[0], tells[0]), weight))
    return wish_less(summed(pairs), joint_wish(mean, mean))
