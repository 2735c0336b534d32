"""KEEPERS: what must be kept to tell a TOTAL as rows come one by one."""

from everysource.errors import Unfit
from everysource.freerows import free_rows
from everysource.lines import are_free, basis_of, line_of, rank, with_line
from everysource.polys import monomial, plus_powers, scaled
from everysource.quotients import ONE, ZERO, less, plus, summed, times
from everysource.sums import plus_totals, times_totals, total_at
from everysource.things import are_fractions, are_powers, as_tuples, is_fraction_not_0, is_tuple_of, rises

MOST_SMALL_ROWS = 7


def is_keeper(thing, c):
    if not is_tuple_of(thing, 3) or not isinstance(thing[0], tuple):
        return False
    start, deeds, tell = thing
    k = len(start)
    if not are_fractions(start, k) or not is_tuple_of(deeds, k):
        return False
    return all(is_poly_of(deed, k + c) for deed in deeds) and is_poly_of(tell, k)


def is_poly_of(thing, m):
    """Whether thing is a POLY for m letters."""
    if not isinstance(thing, tuple) or not all(is_poly_pair(pair, m) for pair in thing):
        return False
    return rises([powers for powers, _ in thing])


def is_poly_pair(thing, m):
    return is_tuple_of(thing, 2) and are_powers(thing[0], m) and is_fraction_not_0(thing[1])


def poly_at(poly, letters):
    out = ZERO
    for powers, x in poly:
        out = plus(out, times(x, monomial(letters, powers)))
    return out


def kept_behind(keeper, rows):
    start, deeds, _ = as_tuples(keeper)
    kept = start
    for row in as_tuples(rows):
        kept = tuple([poly_at(deed, kept + row) for deed in deeds])
    return kept


def told(keeper, rows):
    return poly_at(as_tuples(keeper)[2], kept_behind(keeper, rows))


def is_adder(keeper):
    start, deeds, _ = as_tuples(keeper)
    return all(adds(deed, place, len(start)) for place, deed in enumerate(deeds))


def adds(deed, place, k):
    """Whether the POLY is the kept number at place, of k ones, plus a POLY of the row alone."""
    own = unit(place, k)
    touched = [(powers[:k], x, powers[k:]) for powers, x in deed if any(powers[:k])]
    return len(touched) == 1 and touched[0][:2] == (own, ONE) and not any(touched[0][2])


def unit(place, k):
    return tuple([1 if other == place else 0 for other in range(k)])


def is_straight(keeper):
    start, deeds, tell = as_tuples(keeper)
    return all(sum(powers[:len(start)]) == 1 for poly in deeds + (tell,) for powers, _ in poly)


def check_adder(keeper):
    """Raises Unfit if the KEEPER is no ADDER."""
    if not is_adder(keeper):
        raise Unfit()


def merged(keeper, kept, others):
    check_adder(keeper)
    both = [plus(x, y) for x, y in zip(as_tuples(kept), as_tuples(others))]
    return tuple([less(x, first) for x, first in zip(both, as_tuples(keeper)[0])])


def taken_back(keeper, kept, row):
    check_adder(keeper)
    start, deeds, _ = as_tuples(keeper)
    nothing = (ZERO,) * len(start)
    gone = [poly_at(deed, nothing + as_tuples(row)) for deed in deeds]
    return tuple([less(x, y) for x, y in zip(as_tuples(kept), gone)])


def added_total(keeper):
    check_adder(keeper)
    start, deeds, tell = as_tuples(keeper)
    k = len(start)
    sums = []
    for first, deed in zip(start, deeds):
        rows = tuple([((powers[k:],), x) for powers, x in deed if not any(powers[:k])])
        sums.append(plus_totals(rows, scaled((((), ONE),), first)))
    out = ()
    for powers, x in tell:
        out = plus_totals(out, total_product(sums, powers, x))
    return out


def total_product(sums, powers, x):
    """The TOTAL that is x times the product of TOTALS to these powers."""
    out = (((), x),)
    for own, many in zip(sums, powers):
        for _ in range(many):
            out = times_totals(out, own)
    return out


def slope(total, powers):
    powers = as_tuples(powers)
    pairs = []
    for factors, x in as_tuples(total):
        many = factors.count(powers)
        if many > 0:
            place = factors.index(powers)
            pairs.append((factors[:place] + factors[place + 1:], times(x, (many, 1))))
    return summed(pairs)


def letters_of(total):
    """The set of the POWERS in a TOTAL."""
    return tuple(sorted({powers for factors, _ in total for powers in factors}))


def slopes_of(total):
    """The list of the slopes by all POWERS in the TOTAL, ascending."""
    return [slope(total, powers) for powers in letters_of(total)]


def total_line(total):
    """The line of the FRACTIONS of a TOTAL by their factors."""
    return {factors: x for factors, x in total}


def line_total(line):
    return tuple([(factors, line[factors]) for factors in sorted(line)])


def fewest_kept(total):
    return rank([total_line(own) for own in slopes_of(as_tuples(total))])


def straight_basis(total):
    """A basis of the lines of the TOTAL, its slopes, their slopes and so on."""
    basis, waiting = {}, [total]
    while waiting:
        later = []
        for own in waiting:
            wider = with_line(basis, total_line(own))
            if len(wider) > len(basis):
                basis = wider
                later.extend(slopes_of(own))
        waiting = later
    return basis


def straight_kept(total):
    return len(straight_basis(as_tuples(total)))


def kept_basis(total):
    """The reduced basis of the lines of what stands at each factors in the slopes, by the POWERS of these."""
    lines = {}
    for powers in letters_of(total):
        for factors, x in slope(total, powers):
            if factors not in lines:
                lines[factors] = {}
            lines[factors][powers] = x
    return basis_of([lines[factors] for factors in sorted(lines)])


def kept_forms(total):
    basis = kept_basis(as_tuples(total))
    return tuple([sum_total(basis[first]) for first in sorted(basis)])


def sum_total(line):
    """The TOTAL that is the sum of the FRACTIONS of the line times the sums by their POWERS."""
    return tuple([((powers,), line[powers]) for powers in sorted(line)])


def made_keeper(total, c):
    total = as_tuples(total)
    basis = kept_basis(total)
    k, firsts = len(basis), sorted(basis)
    deeds = []
    for place, first in enumerate(firsts):
        rows = [((0,) * k + powers, x) for powers, x in basis[first].items()]
        deeds.append(summed(rows + [(unit(place, k) + (0,) * c, ONE)]))
    # The total hangs on what is kept alone, so sums that are first in no line may be taken as 0.
    tell = []
    for factors, x in total:
        if all(powers in firsts for powers in factors):
            tell.append((tuple([factors.count(powers) for powers in firsts]), x))
    return ((ZERO,) * k, tuple(deeds), summed(tell))


def straight_keeper(total, c):
    """What is kept are the values of a basis; a further row makes them values of what the basis spans, too."""
    total = as_tuples(total)
    basis = straight_basis(total)
    k, firsts = len(basis), sorted(basis)
    deeds = []
    for first in firsts:
        pairs = []
        for powers, later in further(line_total(basis[first]), c):
            pairs.extend([(own + powers, x) for own, x in coordinates(later, firsts)])
        deeds.append(summed(pairs))
    start = [basis[first].get((), ZERO) for first in firsts]
    return (tuple(start), tuple(deeds), summed(coordinates(total, firsts)))


def coordinates(total, firsts):
    """Pairs (powers of the kept numbers, FRACTION) by which the TOTAL comes of a basis with these first factors."""
    line = total_line(total)
    return [(unit(place, len(firsts)), line.get(first, ZERO)) for place, first in enumerate(firsts)]


def further(total, c):
    """Pairs (powers, TOTAL): a further row adds up its numbers to these powers, times the values of the TOTALS."""
    parts = {}
    for factors, x in total:
        for powers, left in parted(factors, c):
            parts[powers] = plus_totals(parts.get(powers, ()), ((left, x),))
    return [(powers, parts[powers]) for powers in sorted(parts)]


def parted(factors, c):
    """The list of pairs (sum of the powers of some factors, the other factors), for all ways to choose these."""
    out = [((0,) * c, ())]
    for powers in factors:
        taken = [(plus_powers(own, powers), left) for own, left in out]
        out = taken + [(own, left + (powers,)) for own, left in out]
    return out


def slope_paper(total, c):
    total = as_tuples(total)
    letters, slopes, basis = (), [], {}
    for powers in letters_of(total):
        own = slope(total, powers)
        wider = with_line(basis, total_line(own))
        if len(wider) > len(basis):
            letters, slopes, basis = letters + (powers,), slopes + [own], wider
    return (letters, free_ends(slopes, c))


def straight_paper(total, c):
    basis = straight_basis(as_tuples(total))
    # What heads and ends do together is the same for both, so what parts the one parts the other.
    ends = free_ends([line_total(basis[first]) for first in sorted(basis)], c)
    return (ends, ends)


def free_ends(totals, c):
    """As many ends as TOTALS, which are independent, at which their values are independent lines."""
    ends, basis, k = (), {}, 0
    while len(ends) < len(totals):
        for end in ends_to_try(k, c):
            wider = with_line(basis, line_of([total_at(own, end) for own in totals]))
            if len(wider) > len(basis):
                ends, basis = ends + (end,), wider
        k += 1
    return ends


def ends_to_try(k, c):
    """The list of all lots of the first k free rows with the last of them; for great k rows of great powers.

    What is left of TOTALS where they are 0 at all ends that are found is not 0 at some number of rows: if
    all these lots do not show it, great powers of primes [freerows] do.
    """
    if k > MOST_SMALL_ROWS:
        return [free_rows(many, c, k) for many in range(k + 1)]
    rows = free_rows(k, c, 1)
    out = [()]
    for row in rows[:-1]:
        out = out + [lot + (row,) for lot in out]
    return [lot + rows[-1:] for lot in out]


def are_row_lots(thing, c):
    """Whether thing is a tuple of tuples of ROWS."""
    return isinstance(thing, tuple) and all(are_rows(rows, c) for rows in thing)


def are_rows(thing, c):
    return isinstance(thing, tuple) and all(are_fractions(row, c) for row in thing)


def is_slope_paper(total, thing, c):
    if not is_tuple_of(thing, 2) or not isinstance(thing[0], tuple) or not are_row_lots(thing[1], c):
        return False
    letters, ends = thing
    if len(letters) != len(ends) or not all(are_powers(powers, c) for powers in letters):
        return False
    slopes = [slope(total, powers) for powers in letters]
    return are_free([line_of([total_at(own, end) for own in slopes]) for end in ends])


def is_straight_paper(total, thing, c):
    if not is_tuple_of(thing, 2) or not all(are_row_lots(part, c) for part in thing):
        return False
    heads, ends = thing
    if len(heads) != len(ends):
        return False
    return are_free([line_of([total_at(total, head + end) for end in ends]) for head in heads])
