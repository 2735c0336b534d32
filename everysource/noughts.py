"""Which of the programs that are right has the least spread, if samples show some columns."""

from everysource.drawings import mean_of
from everysource.errors import CanNot, NoPlace, Unfit
from everysource.forms import columns_of, fits, is_form, kind_samples
from everysource.means import showing_source
from everysource.polys import product_of, scaled, shape
from everysource.quotients import ONE, ZERO, over, summed, times
from everysource.seats import all_seatings, even_form, seated_powers
from everysource.sources import is_source
from everysource.things import as_tuples, is_tuple_of
from everysource.wishes import made_wish, wish_of


def check_fits(kinds, form):
    """Raises Unfit if the FORM does not fit."""
    if not fits(form, kinds):
        raise Unfit()


def factors_of(powers):
    return tuple(sorted([own for own in powers if any(own)]))


def mean_over(form, lot):
    parts = {}
    for powers, x in as_tuples(form):
        kept = tuple([(0,) * len(own) if sample in lot else own for sample, own in enumerate(powers)])
        drawn = factors_of([own for sample, own in enumerate(powers) if sample in lot])
        parts.setdefault(kept, []).append((drawn, x))
    wishes = [(kept, made_wish(parts[kept])) for kept in sorted(parts)]
    return tuple([(kept, wish) for kept, wish in wishes if wish != ()])


def is_nought(form):
    return wish_of(form) == ()


def nought_basis(kinds, sums):
    least, out = {}, []
    for powers in all_fitting(kind_samples(kinds), as_tuples(sums)):
        factors = factors_of(powers)
        if factors in least:
            out.append(nought_of(powers, least[factors]))
        else:
            least[factors] = powers
    return sorted(out)


def nought_of(powers, other):
    """The FORM of the product with these powers less that with the other ones."""
    return tuple(sorted([(powers, ONE), (other, (-1, 1))]))


def all_fitting(shown, sums):
    """The ascending list of all powers that fit and come to sums, column by column."""
    if not shown:
        return [()] if not any(sums) else []
    out = []
    for own in all_below(shown[0], sums):
        left = tuple([k - gone for k, gone in zip(sums, own)])
        out.extend([(own,) + rest for rest in all_fitting(shown[1:], left)])
    return out


def all_below(seen, sums):
    """The ascending list of the powers that use only columns seen and are at most sums."""
    out = [()]
    for column, most in enumerate(sums):
        top = most if column in seen else 0
        out = [own + (k,) for own in out for k in range(top + 1)]
    return out


def is_level(kinds, form):
    check_fits(kinds, form)
    return unlike_powers_in(kind_samples(kinds), as_tuples(form)) is None


def unlike_powers_in(shown, form):
    """Two powers that fit, with the same factors but not the same FRACTION in form; None if there are none."""
    table = {powers: x for powers, x in form}
    for powers, x in form:
        factors = factors_of(powers)
        for seats in all_seatings(shown, factors):
            other = seated_powers(len(shown), len(powers[0]), factors, seats)
            if table.get(other, ZERO) != x:
                return (powers, other)
    return None


def quiet_columns(kinds, sample):
    shown = kind_samples(kinds)
    if not 0 <= sample < len(shown):
        raise NoPlace(sample)
    return tuple([column for column in shown[sample] if loud_sample(shown, sample, column) is None])


def loud_sample(shown, sample, column):
    """A sample that shows some column which this one shows, but not the one named; None if there is none."""
    for other, seen in enumerate(shown):
        if any(own in seen for own in shown[sample]) and column not in seen:
            return other
    return None


def loud_use(shown, form):
    """A sample with a column that the FORM uses of it and that is not quiet there; None if there is none."""
    for sample in range(len(shown)):
        for column in columns_of(form, sample):
            if loud_sample(shown, sample, column) is not None:
                return (sample, column)
    return None


def is_best(kinds, form):
    return is_level(kinds, form) and loud_use(kind_samples(kinds), as_tuples(form)) is None


def best_with(kinds, wish):
    form = even_form(kinds, wish)
    if not is_best(kinds, form):
        raise CanNot()
    return form


def beating_paper(kinds, form):
    if is_best(kinds, form):
        raise CanNot()
    shown, form = kind_samples(kinds), as_tuples(form)
    k = 1
    while wish_of(product_of(form, beating_nought(shown, form, k))) == ():
        k += 1
    nought = beating_nought(shown, form, k)
    return (nought, showing_source(wish_of(product_of(form, nought)), shape((form,))[1]))


def beating_nought(shown, form, k):
    """A nought that fits, its powers the greater the greater k is.

    Where its powers are greater than those in form, the factors of the product tell which pair of form they
    come of: so two powers with unlike FRACTIONS leave a difference, and a column that is used of a sample
    where it is not quiet comes together there with the great power, but not at the other sample.
    """
    found = unlike_powers_in(shown, form)
    if found is not None:
        powers, other = found
        return nought_of(raised(powers, k), raised(other, k))
    n, c = shape((form,))
    sample, column = loud_use(shown, form)
    other = loud_sample(shown, sample, column)
    joint = [place for place in shown[sample] if place in shown[other]][0]
    great = (tuple([k if place == joint else 0 for place in range(c)]),)
    return nought_of(seated_powers(n, c, great, (sample,)), seated_powers(n, c, great, (other,)))


def raised(powers, k):
    return tuple([tuple([k * number for number in own]) for own in powers])


def is_beating_paper(kinds, form, thing):
    check_fits(kinds, form)
    form = as_tuples(form)
    if form == () or not is_tuple_of(thing, 2):
        return False
    nought, source = thing
    n, c = shape((form,))
    if not is_form(nought, n, c) or not fits(nought, kinds) or not is_nought(nought) or not is_source(source, c):
        return False
    return mean_of(product_of(form, nought), source) != ZERO


def beaten_by(form, paper):
    form = as_tuples(form)
    nought, source = as_tuples(paper)
    share = over(mean_of(product_of(form, nought), source), mean_of(product_of(nought, nought), source))
    return summed(form + scaled(nought, times((-1, 1), share)))
