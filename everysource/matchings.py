"""MATCHINGS: how the tells of two TELLERS with the same chances are renamed to each other."""

from everysource.chances import filled_law, joint_sizes
from everysource.orbits import least_name, renamed_forms, renaming
from everysource.quotients import ZERO, is_below, less, sums_by_key
from everysource.things import is_fraction_above_0, is_number, is_order_of, is_tuple_of


def filled_pair(teller, further):
    """Both TELLERS for the greater count of samples, and this count."""
    n, c = joint_sizes(teller, further)
    return (filled_law(teller, n, c), filled_law(further, n, c), n)


def are_matched(teller, further, thing):
    """Whether thing is a MATCHING of teller with further."""
    teller, further, n = filled_pair(teller, further)
    if not isinstance(thing, tuple) or not all(is_match(part, teller, further, n) for part in thing):
        return False
    if not all(is_match_below(part, later) for part, later in zip(thing, thing[1:])):
        return False
    near = sums_by_key([(place, weight) for place, _, _, weight in thing])
    far = sums_by_key([(place, weight) for _, place, _, weight in thing])
    return near == weights_of(teller) and far == weights_of(further)


def is_match(thing, teller, further, n):
    """Whether thing is a quadruple by which tells of the one are renamed to tells of the other."""
    if not is_tuple_of(thing, 4):
        return False
    place, far, order, weight = thing
    if not is_place_in(place, teller) or not is_place_in(far, further):
        return False
    if not is_order_of(order, n) or not is_fraction_above_0(weight):
        return False
    return renamed_forms(teller[place][0], order) == further[far][0]


def is_place_in(thing, teller):
    return is_number(thing) and 0 <= thing < len(teller)


def is_match_below(match, other):
    """Whether a quadruple comes ahead of another one; weights are compared by quotients."""
    if match[:3] != other[:3]:
        return match[:3] < other[:3]
    return is_below(match[3], other[3])


def weights_of(teller):
    """The dict of the weights by the places of the pairs."""
    return {place: weight for place, (_, weight) in enumerate(teller)}


def matching(teller, further):
    """A MATCHING of two TELLERS with the same chances: in each orbit the weights are dealt out one by one."""
    teller, further, n = filled_pair(teller, further)
    near, far = places_by_name(teller), places_by_name(further)
    pairs = [pair for name in near for pair in dealt(near[name], far[name], teller, further)]
    out = []
    for (place, other), weight in sorted(pairs):
        order = renaming(teller[place][0], further[other][0], n)
        out.append((place, other, order, weight))
    return tuple(out)


def places_by_name(teller):
    """For each orbit, by its least name, the list of the places of its tells."""
    out = {}
    for place, (tells, _) in enumerate(teller):
        name = least_name(tells)
        if name not in out:
            out[name] = []
        out[name].append(place)
    return out


def dealt(near, far, teller, further):
    """Pairs ((place, far place), weight) that use up the weights at these places of both, equally much in all."""
    out, first, second = [], 0, 0
    left, right = teller[near[0]][1], further[far[0]][1]
    while True:
        weight = right if is_below(right, left) else left
        out.append(((near[first], far[second]), weight))
        left, right = less(left, weight), less(right, weight)
        if left == ZERO:
            first += 1
            if first == len(near):
                return out
            left = teller[near[first]][1]
        if right == ZERO:
            second += 1
            right = further[far[second]][1]
