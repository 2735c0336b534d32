"""Reckoning with FORMS, and tells of FORMS, in which lists are tuples already."""

from everysource.quotients import ONE, ZERO, plus, power, summed, times


def monomial(row, own):
    """The product of the numbers of the ROW to these powers."""
    out = ONE
    for x, k in zip(row, own):
        if k > 0:
            out = times(out, power(x, k))
    return out


def value_at(form, rows):
    out = ZERO
    for powers, x in form:
        for row, own in zip(rows, powers):
            x = times(x, monomial(row, own))
        out = plus(out, x)
    return out


def product_of(form, other):
    return summed([(joined_powers(left, right), times(x, y)) for left, x in form for right, y in other])


def joined_powers(left, right):
    return tuple([plus_powers(own, far) for own, far in zip(left, right)])


def plus_powers(own, far):
    return tuple([k + more for k, more in zip(own, far)])


def scaled(pairs, x):
    """Pairs (key, FRACTION) with x times the FRACTIONS, none if x is 0."""
    if x[0] == 0:
        return ()
    return tuple([(key, times(y, x)) for key, y in pairs])


def origin_of(order):
    """For each place the sample that order moves there."""
    out = [0] * len(order)
    for sample, place in enumerate(order):
        out[place] = sample
    return tuple(out)


def renamed(form, order):
    origin = origin_of(order)
    return tuple(sorted([(tuple([powers[i] for i in origin]), x) for powers, x in form]))


def shape(forms):
    """The counts of samples and of columns of FORMS, 0 where the FORMS do not show them."""
    for form in forms:
        if form:
            powers = form[0][0]
            return (len(powers), len(powers[0]) if powers else 0)
    return (0, 0)


def hung(forms):
    """The set of the samples on which some of the FORMS hang."""
    found = {}
    for form in forms:
        for powers, _ in form:
            for sample, own in enumerate(powers):
                if any(own):
                    found[sample] = True
    return tuple(sorted(found))


def pressed(form, kept):
    """The FORM in which the samples kept, a set with all on which it hangs, are 0, 1, .."""
    return tuple([(tuple([powers[i] for i in kept]), x) for powers, x in form])


def pressed_all(forms):
    """The FORMS for just the samples on which they hang together."""
    kept = hung(forms)
    return tuple([pressed(form, kept) for form in forms])


def placed(form, ahead, behind, c):
    """The FORM with so many further samples ahead of its own and behind them."""
    none = (0,) * c
    front, back = (none,) * ahead, (none,) * behind
    return tuple([(front + powers + back, x) for powers, x in form])


def with_idle(form, place, c):
    """The FORM with a further sample, of no use, at this place; those from there on come one place later."""
    if not form:
        return form
    idle = ((0,) * c,)
    return tuple([(powers[:place] + idle + powers[place:], x) for powers, x in form])


def without_sample(form, place):
    """The FORM without the sample at this place, on which it does not hang."""
    return tuple([(powers[:place] + powers[place + 1:], x) for powers, x in form])


def widened(form, n, c):
    """The FORM for n samples, further ones behind."""
    if not form:
        return form
    return placed(form, 0, n - len(form[0][0]), c)


def arrangements(items):
    """The ascending list of all unlike tuples that hold these items."""
    if not items:
        return [()]
    ranked = sorted(items)
    out = []
    for place, item in enumerate(ranked):
        if place == 0 or ranked[place - 1] != item:
            rest = ranked[:place] + ranked[place + 1:]
            out.extend([(item,) + tail for tail in arrangements(rest)])
    return out
