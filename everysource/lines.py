"""Lines of FRACTIONS, and which of them are independent.

A line is a dict of FRACTIONS other than 0 by their keys, 0 at all others. A basis is a dict of lines by
their first keys: the first FRACTION of each line is 1 and alone at its key.
"""

from everysource.quotients import ZERO, less, over, times


def line_of(xs):
    """The line of a list of FRACTIONS by their places."""
    return {place: x for place, x in enumerate(xs) if x != ZERO}


def basis_of(lines):
    basis = {}
    for line in lines:
        basis = with_line(basis, line)
    return basis


def with_line(basis, line):
    """The basis of what comes of a basis and a further line; the basis itself if the line comes of it."""
    for key, own in basis.items():
        line = taken_off(line, own, key)
    if not line:
        return basis
    first = min(line)
    line = {key: over(x, line[first]) for key, x in line.items()}
    out = {key: taken_off(own, line, first) for key, own in basis.items()}
    out[first] = line
    return out


def taken_off(line, own, key):
    """The line less that multiple of own that leaves 0 at the key, where own has 1."""
    if key not in line:
        return line
    share = line[key]
    out = {place: x for place, x in line.items()}
    for place, x in own.items():
        left = less(out.get(place, ZERO), times(share, x))
        if left == ZERO:
            out.pop(place)
        else:
            out[place] = left
    return out


def rank(lines):
    """How many of the lines are independent."""
    return len(basis_of(lines))


def are_free(lines):
    """Whether all the lines are independent: a table of as many places has a determinant other than 0 then."""
    return rank(lines) == len(lines)
