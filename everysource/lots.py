"""Products of sums, and sums over unlike places: in how many ways factors fall into lots.

A factor is a tuple of powers. A product of sums over places is the sum, over all ways in which the factors
fall into lots, of the sum over unlike places, one for each lot, which has the sums of its powers.
"""

from everysource.polys import plus_powers


def lots_of(factors):
    """The dict of the lots, tuples of pairs (sums of powers, how many factors), with in how many ways."""
    return few_lots_of(factors, len(factors))


def few_lots_of(factors, most):
    """The same with only so many lots at the most."""
    states = {(): 1}
    for own in factors:
        later = {}
        for lots, count in states.items():
            for wider in wider_lots(lots, own, most):
                later[wider] = later.get(wider, 0) + count
        states = later
    return states


def wider_lots(lots, own, most):
    """The list of what comes of lots if one more factor is put to one of them, or makes a lot of its own."""
    out = [tuple(sorted(lots + ((own, 1),)))] if len(lots) < most else []
    for place, (powers, many) in enumerate(lots):
        joined = (plus_powers(powers, own), many + 1)
        out.append(tuple(sorted(lots[:place] + (joined,) + lots[place + 1:])))
    return out


def lot_powers(lots):
    """The ascending tuple of the powers of lots."""
    return tuple([powers for powers, _ in lots])


def lot_signs(lots):
    """By how much a way counts where a sum over unlike places is told by products of sums."""
    out = 1
    for _, many in lots:
        for k in range(1, many):
            out = -out * k
    return out


def falling(n, many):
    """The product n (n - 1) .. of so many numbers."""
    out = 1
    for k in range(many):
        out = out * (n - k)
    return out
