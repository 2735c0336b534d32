"""Drawing again from samples: what it does on the mean, and which mixes of such runs are right."""

from everysource.errors import CanNot, Unfit
from everysource.lines import basis_of, line_of
from everysource.lots import falling, lot_powers, lots_of
from everysource.quotients import ONE, ZERO, less, lowest, over, plus, power, summed, times, whole_power
from everysource.polys import scaled
from everysource.shifts import times_line
from everysource.sums import form_of
from everysource.things import as_tuples, is_fraction_not_0, is_number, is_tuple_of, rises
from everysource.wishes import wish_degree


def root_of(n, k):
    return lowest(falling(n, k), whole_power(n, k))


def drawn(wish, n, many):
    wish = as_tuples(wish)
    for _ in range(many):
        wish = plain_mean(wish, n)
    return wish


def plain_mean(wish, n):
    """The WISH that is the mean of the plain program of n samples."""
    pairs = []
    for factors, x in wish:
        ways = whole_power(n, len(factors))
        for lots, count in lots_of(factors).items():
            pairs.append((lot_powers(lots), times(x, lowest(count * falling(n, len(lots)), ways))))
    return summed(pairs)


def plain_form(wish, n, c):
    # A mean in the SOURCE of the ROWS is a sum over them divided by n.
    shares = [(factors, times(x, lowest(1, whole_power(n, len(factors))))) for factors, x in as_tuples(wish)]
    return form_of(shares, n, c)


def run_form(wish, n, c, t):
    return plain_form(drawn(wish, n, t), n, c)


def root_parts(wish, n):
    wish = as_tuples(wish)
    degree = wish_degree(wish)
    if n < degree:
        raise Unfit()
    roots = [root_of(n, k) for k in range(max(degree, 1), 0, -1)]
    steps = [wish]
    for _ in roots[1:]:
        steps.append(plain_mean(steps[-1], n))
    parts = [(root, part_at(root, roots, steps)) for root in roots]
    return [(root, part) for root, part in parts if part != ()]


def part_at(root, roots, steps):
    """The part for this root: a polynomial that is 1 at the root and 0 at all others, of drawing once more."""
    poly = [ONE]
    for other in roots:
        if other != root:
            off = less(root, other)
            poly = times_line(poly, (over(times((-1, 1), other), off), over(ONE, off)))
    return summed([pair for x, step in zip(poly, steps) for pair in scaled(step, x)])


def fewest_runs(wish, n):
    return None if n < wish_degree(wish) else len(root_parts(wish, n))


def is_runs(thing):
    return are_shares(thing, 0)


def are_shares(thing, least):
    """Whether thing is a tuple of pairs (number, FRACTION other than 0), numbers from least, ascending, each once."""
    if not isinstance(thing, tuple) or not all(is_share(pair, least) for pair in thing):
        return False
    return rises([number for number, _ in thing])


def is_share(thing, least):
    return is_tuple_of(thing, 2) and is_number(thing[0]) and thing[0] >= least and is_fraction_not_0(thing[1])


def runs_mean(wish, n, runs):
    parts = [scaled(drawn(wish, n, t + 1), share) for t, share in as_tuples(runs)]
    return summed([pair for part in parts for pair in part])


def runs_form(wish, n, c, runs):
    parts = [scaled(run_form(wish, n, c, t), share) for t, share in as_tuples(runs)]
    return summed([pair for part in parts for pair in part])


def are_right_runs(wish, n, runs):
    return runs_mean(wish, n, runs) == as_tuples(wish)


def right_runs(wish, n, numbers):
    if n < wish_degree(wish):
        raise CanNot()
    roots = [root for root, _ in root_parts(wish, n)]
    chosen = as_tuples(numbers)[:len(roots)]
    if len(chosen) < len(roots):
        raise CanNot()
    # A line for each root: what the shares of the chosen t are times there, and what they come to.
    basis = basis_of([line_of([power(root, t + 1) for t in chosen] + [ONE]) for root in roots])
    return tuple([(t, basis[place][len(chosen)]) for place, t in enumerate(chosen)])


def wrong_root(wish, n, runs):
    runs = as_tuples(runs)
    for root, _ in root_parts(wish, n):
        if worth_at(root, runs) != ONE:
            return root
    return None


def worth_at(root, runs):
    """The sum of the shares times the root to the power t + 1."""
    out = ZERO
    for t, share in runs:
        out = plus(out, times(share, power(root, t + 1)))
    return out
