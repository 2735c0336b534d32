"""Tables of FRACTIONS line by line: which lines are independent."""

from everysource.quotients import ZERO, less, over, times


def reduced(lines):
    """The list of the lines of the reduced basis of these lines, all of one length.

    The first FRACTION other than 0 of each line is 1, stands further behind than in the one ahead, and
    alone in its place.
    """
    basis = []
    for line in lines:
        basis = with_line(basis, line)
    return sorted(basis, key=first_place)


def with_line(basis, line):
    """The reduced basis, in any order, of such a basis and a further line; the basis itself if the line comes of it."""
    line = rest_by(basis, line)
    place = first_place(line)
    if place is None:
        return basis
    line = [over(x, line[place]) for x in line]
    return [taken_off(own, line, place) for own in basis] + [line]


def rest_by(basis, line):
    """What is left of the line if as much of the basis is taken off as stands in its first places."""
    for own in basis:
        line = taken_off(line, own, first_place(own))
    return line


def taken_off(line, own, place):
    """The line less that multiple of own that leaves 0 at place, where own has 1."""
    share = line[place]
    if share == ZERO:
        return line
    return [less(x, times(share, y)) for x, y in zip(line, own)]


def first_place(line):
    """The first place with a FRACTION other than 0, None if there is none."""
    for place, x in enumerate(line):
        if x != ZERO:
            return place
    return None


def rank(lines):
    """How many of the lines are independent."""
    return len(reduced(lines))


def are_free(lines):
    """Whether all the lines are independent; a table of as many lines as places has a determinant other than 0 then."""
    return rank(lines) == len(lines)
