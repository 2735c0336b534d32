"""What can be told, and by which chances, gone through sample by sample.

All numbers are made whole first: the columns, the FORMS and the chances are multiplied by numbers
that are taken out again in the end. So the many steps between reckon with plain integers.
"""

from everysource.polys import pressed_all
from everysource.quotients import ONE, common_bottom, lowest, sums_by_key, times, whole, whole_power


def count_told(tells, choices):
    """The dict of what is told, and how often.

    choices has, for each sample, pairs (ROW, count), the count any number; a way to choose a ROW for
    each sample counts as often as the product of these counts.
    """
    scales = column_scales([row for own in choices for row, _ in own])
    wholes = [whole_form(form, scales) for form in tells]
    states = {tuple([pairs for pairs, _ in wholes]): 1}
    for options in choices:
        states = later_states(states, [(whole_row(row, scales), count) for row, count in options])
    bottoms = [bottom for _, bottom in wholes]
    return {told_numbers(state, bottoms): count for state, count in states.items()}


def column_scales(rows):
    """For each column a number that makes all its numbers in rows whole."""
    return [common_bottom(column) for column in zip(*rows)]


def whole_row(row, scales):
    return tuple([whole(x, scale) for x, scale in zip(row, scales)])


def whole_form(form, scales):
    """Pairs (powers, number) and a bottom: over it their value at rows times scales is that of form."""
    parts = [(powers, lowest(x[0], x[1] * scale_of(powers, scales))) for powers, x in form]
    bottom = common_bottom([x for _, x in parts])
    return (tuple([(powers, whole(x, bottom)) for powers, x in parts]), bottom)


def scale_of(powers, scales):
    out = 1
    for own in powers:
        out = out * whole_monomial(own, scales)
    return out


def whole_monomial(own, row):
    """The product of the numbers of a row of numbers to these powers."""
    out = 1
    for k, number in zip(own, row):
        if k > 0:
            out = out * whole_power(number, k)
    return out


def later_states(states, rows):
    """The states that come of putting one of the rows to the first sample that is left."""
    out = {}
    for row, count in rows:
        worths = {}
        for state, many in states.items():
            later = tuple([at_first(pairs, row, worths) for pairs in state])
            out[later] = out.get(later, 0) + many * count
    return out


def at_first(pairs, row, worths):
    """The pairs with the row at the first sample; worths keeps what the row comes to by powers."""
    sums = {}
    for powers, number in pairs:
        own = powers[0]
        if own not in worths:
            worths[own] = whole_monomial(own, row)
        rest = powers[1:]
        sums[rest] = sums.get(rest, 0) + number * worths[own]
    return tuple(sorted([(rest, number) for rest, number in sums.items() if number != 0]))


def told_numbers(state, bottoms):
    """The FRACTIONS told where no sample is left."""
    return tuple([lowest(pairs[0][1] if pairs else 0, bottom) for pairs, bottom in zip(state, bottoms)])


def tells_chances(tells, source):
    """The dict of what tells come to, with its chance, over all drawings."""
    kept = pressed_all(tells)
    used = [form[0][0] for form in kept if form]
    n = len(used[0]) if used else 0
    bottom = common_bottom([chance for _, chance in source])
    options = [(row, whole(chance, bottom)) for row, chance in source]
    ways = whole_power(bottom, n)
    counts = count_told(kept, [options] * n)
    return {numbers: lowest(count, ways) for numbers, count in counts.items()}


def chance_table(teller, source):
    """The dict of what is told, with its chance, dice and drawings together; weights may be below 0."""
    pairs = []
    for tells, weight in teller:
        chances = tells_chances(tells, source)
        pairs.extend([(numbers, times(weight, chance)) for numbers, chance in chances.items()])
    return sums_by_key(pairs)


def parts_table(table, lot, others):
    """The dict of what the places of lot and those of others are, a pair of tuples, with its chance."""
    pairs = []
    for numbers, chance in table.items():
        own = tuple([numbers[place] for place in lot])
        more = tuple([numbers[place] for place in others])
        pairs.append(((own, more), chance))
    return sums_by_key(pairs)


def linked_pair(table):
    """The least pair of a parts table whose chance is not the product of the chances of each, or None.

    If there is none among the pairs that are told, their products come to 1 in all, so that no other
    pair has a product above 0.
    """
    owns = sums_by_key([(own, chance) for (own, _), chance in table.items()])
    mores = sums_by_key([(more, chance) for (_, more), chance in table.items()])
    linked = [(own, more) for (own, more), chance in table.items() if chance != times(owns[own], mores[more])]
    return min(linked, default=None)


def single(forms):
    """The TELLER that tells these FORMS without dice."""
    return ((forms, ONE),)
