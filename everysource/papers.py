"""One judge: CLAIMS, and the PAPERS that show that they are so, or not."""

from everysource.apart import are_apart, bond, drawn_anew, is_bond, is_samples_paper, samples_paper
from everysource.chances import alone, fewest_samples, is_parting, narrow_law, parting, same_chances
from everysource.claims import are_alike_laws, is_right_claim, law_shape
from everysource.errors import Unfit
from everysource.keepers import (
    added_total, fewest_kept, is_adder, is_keeper, is_slope_paper, made_keeper, slope_paper,
)
from everysource.matchings import are_matched, matching
from everysource.noughts import beating_paper, is_beating_paper, is_best
from everysource.quotients import ZERO, is_below, times
from everysource.seats import can_tell, is_right_form, right_form
from everysource.shifts import is_shift, shift
from everysource.steady import (
    gaining_ring, is_most_store, is_ring, is_store, most_ring, most_step, most_store, ring_gain, store,
)
from everysource.things import as_tuples, is_tuple_of


def is_claim(thing):
    return is_right_claim(thing)


def checked(claim):
    """The CLAIM with tuples for lists; raises Unfit if it is none."""
    claim = as_tuples(claim)
    if not is_claim(claim):
        raise Unfit()
    return claim


def checked_all(claims):
    """The tuple of the CLAIMS; raises Unfit if one is none."""
    return tuple([checked(claim) for claim in claims])


def is_so(claim):
    kind, first, *rest = checked(claim)
    if kind == "same":
        return same_chances(first, rest[0])
    if kind == "apart":
        return are_apart(first, rest[0], rest[1])
    if kind == "needs":
        return fewest_samples(first) >= rest[0]
    if kind == "told":
        return can_tell(first, rest[0])
    if kind == "best":
        return is_best(first, rest[0])
    if kind == "kept":
        return fewest_kept(first) >= rest[1]
    if kind == "steady":
        return gaining_ring(first) is None
    return not is_below(rest[0], most_step(first))


def paper(claim):
    claim = checked(claim)
    return paper_for(claim) if is_so(claim) else paper_against(claim)


def paper_for(claim):
    """A PAPER for a CLAIM that is so."""
    kind, first, *rest = claim
    if kind == "same":
        return matching(first, rest[0])
    if kind == "apart":
        return matching(alone(first, rest[0] + rest[1]), drawn_anew(first, rest[0], rest[1]))
    if kind == "needs":
        return () if rest[0] == 0 else samples_paper(first)
    if kind == "told":
        return right_form(first, rest[0])
    if kind == "best":
        return ()
    if kind == "kept":
        return slope_paper(first, rest[0])
    return store(first) if kind == "steady" else most_store(first, rest[0])


def paper_against(claim):
    """A PAPER against a CLAIM that is not so."""
    kind, first, *rest = claim
    if kind == "same":
        return parting(first, rest[0])
    if kind == "apart":
        return bond(first, rest[0], rest[1])
    if kind == "needs":
        narrow = narrow_law(first)
        return (narrow, matching(first, narrow))
    if kind == "told":
        return shift(first, rest[0])
    if kind == "best":
        return beating_paper(first, rest[0])
    if kind == "kept":
        return made_keeper(first, rest[0])
    return gaining_ring(first) if kind == "steady" else most_ring(first)


def is_paper_for(claim, thing):
    kind, first, *rest = checked(claim)
    if kind == "same":
        return are_matched(first, rest[0], thing)
    if kind == "apart":
        return are_matched(alone(first, rest[0] + rest[1]), drawn_anew(first, rest[0], rest[1]), thing)
    if kind == "needs":
        return is_needs_paper(first, rest[0], thing)
    if kind == "told":
        return is_right_form(first, rest[0], thing)
    if kind == "best":
        return thing == () and is_best(first, rest[0])
    if kind == "kept":
        return is_slope_paper(first, thing, rest[0]) and len(thing[0]) >= rest[1]
    return is_store(first, thing) if kind == "steady" else is_most_store(first, rest[0], thing)


def is_needs_paper(teller, many, thing):
    if many == 0:
        return thing == ()
    return is_samples_paper(teller, thing) and len(thing[0]) >= many


def is_paper_against(claim, thing):
    kind, first, *rest = checked(claim)
    if kind == "same":
        return is_parting(first, rest[0], thing)
    if kind == "apart":
        return is_bond(first, rest[0], rest[1], thing)
    if kind == "needs":
        return is_narrow_paper(first, rest[0], thing)
    if kind == "told":
        return is_shift(first, rest[0], thing)
    if kind == "best":
        return is_beating_paper(first, rest[0], thing)
    if kind == "kept":
        return is_short_keeper(first, rest[0], rest[1], thing)
    if not is_ring(thing, first[0]):
        return False
    gain = ring_gain(first, thing)
    return gain != ZERO if kind == "steady" else is_below(times(rest[0], (len(thing), 1)), gain)


def is_narrow_paper(teller, many, thing):
    """Whether thing is a TELLER for less than so many samples and a MATCHING of teller with it."""
    if not is_tuple_of(thing, 2) or not are_alike_laws(teller, thing[0]) or law_shape(thing[0])[0] >= many:
        return False
    return are_matched(teller, thing[0], thing[1])


def is_short_keeper(total, c, many, thing):
    """Whether thing is an ADDER that tells total and keeps less than so many numbers."""
    if not is_keeper(thing, c) or len(thing[0]) >= many or not is_adder(thing):
        return False
    return added_total(thing) == total


def is_matching(teller, further, thing):
    return are_matched(as_tuples(teller), as_tuples(further), thing)


def verdicts(claims, things):
    claims = checked_all(claims)
    if len(claims) != len(things):
        raise Unfit()
    return [verdict(claim, thing) for claim, thing in zip(claims, things)]


def verdict(claim, thing):
    if is_paper_for(claim, thing):
        return "for"
    return "against" if is_paper_against(claim, thing) else "none"


def comes_of(claim, claims):
    claim, claims = checked(claim), checked_all(claims)
    if claim[0] == "same":
        return are_linked(claim[1], claim[2], claims)
    return any(comes_of_one(claim, other) for other in claims)


def are_linked(teller, further, claims):
    """Whether the CLAIMS lead from the one to the other: what they say holds both ways, and of thirds."""
    links = [other[1:] for other in claims if other[0] == "same"]
    waiting, reached = [teller], []
    while waiting:
        own = waiting.pop()
        for link in links:
            for near, far in (link, link[::-1]):
                if near == own and far not in reached:
                    reached.append(far)
                    waiting.append(far)
    return further in reached


def comes_of_one(claim, other):
    """Whether a CLAIM other than of the same chances comes of this one alone."""
    if claim[0] == "most" and other == ("steady", claim[1]):
        return not is_below(claim[2], ZERO)
    if claim == other or claim[0] != other[0]:
        return claim == other
    kind, first, *rest = claim
    _, far, *more = other
    if kind == "told":
        return rest == more and has_all(first, far)
    if first != far:
        return False
    if kind == "apart":
        return are_parts(rest, more) or are_parts(rest[::-1], more)
    if kind == "needs":
        return rest[0] <= more[0]
    if kind == "kept":
        return rest[0] == more[0] and rest[1] <= more[1]
    return kind == "most" and not is_below(rest[0], more[0])


def are_parts(lots, wholes):
    """Whether each of the lots is within the one of the others at its place."""
    return all(place in own for lot, own in zip(lots, wholes) for place in lot)


def has_all(kinds, other):
    """Whether kinds have each seen of the other ones as often or more."""
    counts = {seen: number for seen, number in kinds}
    return all(counts.get(seen, 0) >= number for seen, number in other)


def first_false(claims):
    for place, claim in enumerate(checked_all(claims)):
        if not is_so(claim):
            return place
    return None
