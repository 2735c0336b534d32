"""Leaving out samples, and the errors of plain programs by the number of samples."""

from itertools import combinations

from everysource.again import are_shares, plain_form, plain_mean
from everysource.best import best_program
from everysource.errors import CanNot, Unfit
from everysource.layers import layer, layer_shares
from everysource.lines import basis_of, line_of
from everysource.lots import lot_powers, lots_of
from everysource.polys import product_of, scaled, with_idle
from everysource.quotients import ZERO, lowest, summed, times
from everysource.ratios import falling_poly
from everysource.things import as_tuples
from everysource.wishes import wish_degree, wish_less, wish_plus, wish_scaled


def error_parts(wish):
    wish = as_tuples(wish)
    return [error_part(wish, k) for k in range(1, wish_degree(wish))]


def error_part(wish, k):
    """What stands by n to the power -k in the mean of the plain program of n samples."""
    pairs = []
    for factors, x in wish:
        place = len(factors) - k
        for lots, count in lots_of(factors).items():
            poly = falling_poly(len(lots))
            if 0 <= place < len(poly):
                pairs.append((lot_powers(lots), times(x, (count * poly[place], 1))))
    return summed(pairs)


def check_two(n):
    """Raises Unfit if no sample can be left out."""
    if n < 2:
        raise Unfit()


def left_form(wish, n, c):
    check_two(n)
    pairs = scaled(plain_form(wish, n, c), (n, 1))
    part = scaled(plain_form(wish, n - 1, c), lowest(1 - n, n))
    return summed(pairs + lacking_one(part, n, c))


def lacking_one(form, n, c):
    """Pairs of the sum of a FORM for n - 1 samples over all lots of n samples that lack one."""
    return tuple([pair for sample in range(n) for pair in with_idle(form, sample, c)])


def left_error(wish, n):
    check_two(n)
    wish = as_tuples(wish)
    all_told, part_told = plain_mean(wish, n), plain_mean(wish, n - 1)
    return wish_less(wish_less(scaled(all_told, (n, 1)), scaled(part_told, (n - 1, 1))), wish)


def is_blend(thing):
    return are_shares(thing, 1)


def blend_mean(wish, blend):
    wish = as_tuples(wish)
    parts = [scaled(plain_mean(wish, size), share) for size, share in as_tuples(blend)]
    return summed([pair for part in parts for pair in part])


def is_right_blend(wish, blend):
    return blend_mean(wish, blend) == as_tuples(wish)


def right_blend(wish, sizes):
    wish, sizes = as_tuples(wish), as_tuples(sizes)
    shares = right_shares(wish, [plain_mean(wish, size) for size in sizes])
    if shares is None:
        raise CanNot()
    return tuple([(size, share) for size, share in zip(sizes, shares) if share != ZERO])


def right_shares(wish, means):
    """The list of FRACTIONS by which these WISHES come to wish, None if there are none."""
    tables = [{factors: x for factors, x in own} for own in means + [wish]]
    every = sorted({factors for table in tables for factors in table})
    basis = basis_of([line_of([table.get(factors, ZERO) for table in tables]) for factors in every])
    many = len(means)
    if many in basis:
        return None
    # What the basis leaves open is taken as 0.
    return [basis[place].get(many, ZERO) if place in basis else ZERO for place in range(many)]


def fewest_sizes(wish, sizes):
    wish, sizes = as_tuples(wish), as_tuples(sizes)
    means = {size: plain_mean(wish, size) for size in sizes}
    for many in range(len(sizes) + 1):
        for lot in combinations(sizes, many):
            if right_shares(wish, [means[size] for size in lot]) is not None:
                return lot
    return None


def check_off(wish, n):
    """Raises CanNot if the lots that lack one sample have no best programs."""
    if n < 2 or n - 1 < wish_degree(wish):
        raise CanNot()


def off_form(wish, n, c):
    check_off(wish, n)
    own, middle = best_program(wish, n - 1, c), best_program(wish, n, c)
    # The best program of all samples is the mean of those of the lots, being even and right.
    return summed(lacking_one(product_of(own, own), n, c) + scaled(product_of(middle, middle), (-n, 1)))


def off_mean(wish, n):
    check_off(wish, n)
    out = ()
    for place, share in enumerate(layer_shares(wish, n - 1)):
        k = place + 1
        out = wish_plus(out, wish_scaled(layer(wish, k), times((k, 1), share)))
    return out
