"""Which lots of tells are apart FOR ALL SOURCES, and how few samples are enough."""

from itertools import combinations

from everysource.chances import MOST_ROWS, alone, fewest_samples, is_source_for, same_chances, sizes
from everysource.drawings import check_places
from everysource.errors import TooMuch, Unfit
from everysource.freerows import free_chances, free_rows
from everysource.orbits import all_orders
from everysource.polys import hung, placed, pressed_all, value_at
from everysource.quotients import ZERO, plus, summed, times
from everysource.sources import even_source, source_of
from everysource.tables import chance_table, count_told, linked_pair, parts_table
from everysource.things import are_fractions, as_tuples, is_tuple_of

MOST_HUNG = 5


def check_hung(teller):
    """Raises TooMuch if some tells hang on too many samples together."""
    if fewest_samples(teller) > MOST_HUNG:
        raise TooMuch()


def are_apart(teller, lot, others):
    teller = as_tuples(teller)
    check_places(teller, lot, others)
    check_hung(teller)
    return apart_lot(teller, as_tuples(lot), as_tuples(others))


def apart_lot(teller, lot, others):
    joint, anew = alone(teller, lot + others), drawn_anew(teller, lot, others)
    # Otherwise the chances are unlike, and the many samples of anew would make long work of it.
    return fewest_samples(anew) == fewest_samples(joint) and same_chances(anew, joint)


def drawn_anew(teller, lot, others):
    teller = as_tuples(teller)
    check_places(teller, lot, others)
    c = sizes(teller)[1]
    owns, mores = packed_part(teller, lot), packed_part(teller, others)
    n = max([count for _, count, _ in owns]) + max([count for _, count, _ in mores])
    pairs = []
    for own, many, weight in owns:
        for more, far, share in mores:
            front = tuple([placed(form, 0, n - many, c) for form in own])
            behind = tuple([placed(form, many, n - many - far, c) for form in more])
            pairs.append((front + behind, times(weight, share)))
    return summed(pairs)


def packed_part(teller, places):
    """The list of triples (tells at places, packed, their count of samples, weight)."""
    out = []
    for tells, weight in teller:
        part = tuple([tells[place] for place in places])
        out.append((pressed_all(part), len(hung(part)), weight))
    return out


def apart_lots(teller):
    teller = as_tuples(teller)
    check_hung(teller)
    lots = [tuple(range(len(teller[0][0])))]
    # All that is apart falls apart in two in such ways; what no such way parts stays together.
    for lot, others in two_lots(len(teller[0][0])):
        if apart_lot(teller, lot, others):
            parts = [tuple([k for k in old if k in side]) for old in lots for side in (lot, others)]
            lots = [part for part in parts if part != ()]
    return sorted(lots)


def two_lots(many):
    """The list of all ways in which so many places fall into two sets, not (), place 0 in the first."""
    out = []
    for size in range(many - 1):
        for chosen in combinations(range(1, many), size):
            others = tuple([place for place in range(1, many) if place not in chosen])
            out.append(((0,) + chosen, others))
    return out


def bond(teller, lot, others):
    if are_apart(teller, lot, others):
        return None
    teller = as_tuples(teller)
    lot, others, c = as_tuples(lot), as_tuples(others), max(sizes(teller)[1], 1)
    joint = alone(teller, lot + others)
    for many in range(1, MOST_ROWS + 1):
        for source in (even_source(free_rows(many, c, 1)), free_source(many, c, 1)):
            found = bond_at(joint, len(lot), source)
            if found is not None:
                return found
    found, k = None, 1
    while found is None:
        k += 1
        found = bond_at(joint, len(lot), free_source(MOST_ROWS, c, k))
    return found


def free_source(many, c, k):
    """A SOURCE of so many free ROWS with free chances."""
    return source_of(list(zip(free_rows(many, c, k), free_chances(many, c, k))))


def bond_at(joint, many, source):
    """The BOND with this SOURCE for the first many places of joint and all others, or None."""
    linked = linked_pair(front_table(joint, many, source))
    return None if linked is None else (source,) + linked


def front_table(joint, many, source):
    places = list(range(len(joint[0][0])))
    return parts_table(chance_table(joint, source), places[:many], places[many:])


def is_bond(teller, lot, others, thing):
    teller = as_tuples(teller)
    check_places(teller, lot, others)
    check_hung(teller)
    if not is_tuple_of(thing, 3):
        return False
    source, numbers, more = thing
    if not is_source_for(source, sizes(teller)[1]) or len(source) > MOST_ROWS:
        return False
    if not are_fractions(numbers, len(lot)) or not are_fractions(more, len(others)):
        return False
    joint = alone(teller, as_tuples(lot) + as_tuples(others))
    return is_linked(front_table(joint, len(lot), source), numbers, more)


def is_linked(table, numbers, more):
    """Whether the chance of both is not the product of the chances of each."""
    own, far = ZERO, ZERO
    for (left, right), chance in table.items():
        own = plus(own, chance) if left == numbers else own
        far = plus(far, chance) if right == more else far
    return table.get((numbers, more), ZERO) != times(own, far)


def signed_count(teller, pairs, numbers):
    teller = as_tuples(teller)
    check_hung(teller)
    if len(pairs) != fewest_samples(teller):
        raise Unfit()
    return count_of(teller, as_tuples(pairs), as_tuples(numbers))


def count_of(teller, pairs, numbers):
    out = ZERO
    choices = [((row, 1), (other, -1)) for row, other in pairs]
    for tells, weight in teller:
        if len(hung(tells)) == len(pairs):
            kept = pressed_all(tells)
            for order in all_orders(len(pairs)):
                count = count_told(kept, [choices[place] for place in order]).get(numbers, 0)
                out = plus(out, times(weight, (count, 1)))
    return out


def samples_paper(teller):
    teller = as_tuples(teller)
    check_hung(teller)
    n, c = fewest_samples(teller), sizes(teller)[1]
    if n == 0:
        return None
    full = [pressed_all(tells) for tells, _ in teller if len(hung(tells)) == n]
    k = 0
    while True:
        k += 1
        rows = free_rows(2 * n, c, k)
        pairs = tuple(list(zip(rows[:n], rows[n:])))
        # Where values tell names apart, all that is counted here has the first ROWS, so no minus.
        numbers = tuple([value_at(form, rows[:n]) for form in full[0]])
        if count_of(teller, pairs, numbers) != ZERO:
            return (pairs, numbers)


def is_samples_paper(teller, thing):
    teller = as_tuples(teller)
    check_hung(teller)
    if not is_tuple_of(thing, 2):
        return False
    pairs, numbers = thing
    n, c = fewest_samples(teller), sizes(teller)[1]
    if n == 0 or not is_tuple_of(pairs, n) or not all(is_row_pair(pair, c) for pair in pairs):
        return False
    return are_fractions(numbers, len(teller[0][0])) and count_of(teller, pairs, numbers) != ZERO


def is_row_pair(thing, c):
    return is_tuple_of(thing, 2) and all(are_fractions(row, c) for row in thing)
