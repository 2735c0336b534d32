"""Which wishes samples can tell that show some columns only."""

from itertools import combinations

from everysource.errors import CanNot, NoPlace
from everysource.forms import fits, is_form, kind_samples, uses_only
from everysource.quotients import lowest, summed, times
from everysource.things import as_tuples, is_number, is_tuple_of, rises
from everysource.wishes import wish_degree, wish_moments, wish_of


def shown_by(kinds, sample):
    shown = kind_samples(kinds)
    if not 0 <= sample < len(shown):
        raise NoPlace(sample)
    return shown[sample]


def showing(kinds, moment):
    return showers(kind_samples(kinds), as_tuples(moment))


def showers(shown, moment):
    """The set of the places of what shows the MOMENT; what shows no column shows none."""
    return tuple([place for place, seen in enumerate(shown) if uses_only(moment, seen)])


def is_seating(kinds, factors, thing):
    shown, factors = kind_samples(kinds), as_tuples(factors)
    if not is_tuple_of(thing, len(factors)) or not all(is_number(sample) for sample in thing):
        return False
    if len(set(thing)) != len(thing) or not all(0 <= sample < len(shown) for sample in thing):
        return False
    return all(uses_only(moment, shown[sample]) for moment, sample in zip(factors, thing))


def seating(kinds, factors):
    seats = least_seating(kind_samples(kinds), as_tuples(factors))
    if seats is None:
        raise CanNot()
    return seats


def least_seating(shown, factors):
    """The least SEATING, None if there is none."""
    if not can_seat(shown, factors):
        return None
    seats = []
    for place, moment in enumerate(factors):
        rest = factors[place + 1:]
        free = [sample for sample in showers(shown, moment) if can_seat(without(shown, sample), rest)]
        seats.append(free[0])
        shown = without(shown, free[0])
    return tuple(seats)


def without(shown, sample):
    """What is shown if this sample shows nothing."""
    return shown[:sample] + ((),) + shown[sample + 1:]


def can_seat(shown, factors):
    return most_in_seats(shown, factors) == len(factors)


def most_in_seats(shown, factors):
    """How many factors at the most get seats: all but as many as the samples that show some lot fall short."""
    places = [showers(shown, moment) for moment in factors]
    most = len(factors)
    for size in range(1, len(factors) + 1):
        for lot in combinations(places, size):
            most = min(most, len(factors) - size + joint_size(lot))
    return most


def joint_size(lot):
    """How many places are in some of the sets."""
    return len({place for own in lot for place in own})


def seatings(kinds, factors):
    return all_seatings(kind_samples(kinds), as_tuples(factors))


def all_seatings(shown, factors):
    out = [()]
    for moment in factors:
        free = showers(shown, moment)
        out = [seats + (sample,) for seats in out for sample in free if sample not in seats]
    return out


def most_seated(kinds, factors):
    return most_in_seats(kind_samples(kinds), as_tuples(factors))


def is_lacking_lot(kinds, factors, thing):
    factors = as_tuples(factors)
    if not isinstance(thing, tuple) or thing == () or not all(is_number(place) for place in thing):
        return False
    if not rises(thing) or thing[0] < 0 or thing[-1] >= len(factors):
        return False
    return lacks(kind_samples(kinds), [factors[place] for place in thing])


def lacks(shown, factors):
    """Whether fewer samples than there are factors show one of these or more."""
    return joint_size([showers(shown, moment) for moment in factors]) < len(factors)


def lacking_lot(kinds, factors):
    lot = least_lacking(kind_samples(kinds), as_tuples(factors))
    if lot is None:
        raise CanNot()
    return lot


def least_lacking(shown, factors):
    """Of the LACKING LOTS with the fewest places the least, None if there is none."""
    for size in range(1, len(factors) + 1):
        for lot in combinations(range(len(factors)), size):
            if lacks(shown, [factors[place] for place in lot]):
                return lot
    return None


def can_tell(kinds, wish):
    return can_tell_shown(kind_samples(kinds), as_tuples(wish))


def can_tell_shown(shown, wish):
    return all(can_seat(shown, factors) for factors, _ in wish)


def first_lacking(kinds, wish):
    shown = kind_samples(kinds)
    for place, (factors, _) in enumerate(as_tuples(wish)):
        lot = least_lacking(shown, factors)
        if lot is not None:
            return (place, lot)
    raise CanNot()


def part_told(kinds, wish):
    shown = kind_samples(kinds)
    return tuple([(factors, x) for factors, x in as_tuples(wish) if can_seat(shown, factors)])


def wish_width(kinds, wish):
    """The count of columns of the FORMS that are right for wish."""
    moments = wish_moments(wish)
    if moments:
        return len(moments[0])
    return 1 + max([column for seen, _ in kinds for column in seen])


def check_can_tell(kinds, wish):
    """Raises CanNot if the samples cannot tell the wish."""
    if not can_tell(kinds, wish):
        raise CanNot()


def seated_powers(n, c, factors, seats):
    """The powers of n samples that are those of the factors at their seats."""
    powers = [(0,) * c] * n
    for moment, sample in zip(factors, seats):
        powers[sample] = moment
    return tuple(powers)


def right_form(kinds, wish):
    check_can_tell(kinds, wish)
    shown, c = kind_samples(kinds), wish_width(kinds, wish)
    pairs = []
    for factors, x in as_tuples(wish):
        pairs.append((seated_powers(len(shown), c, factors, least_seating(shown, factors)), x))
    return summed(pairs)


def even_form(kinds, wish):
    check_can_tell(kinds, wish)
    shown, c = kind_samples(kinds), wish_width(kinds, wish)
    pairs = []
    for factors, x in as_tuples(wish):
        ways = all_seatings(shown, factors)
        part = times(x, lowest(1, len(ways)))
        pairs.extend([(seated_powers(len(shown), c, factors, seats), part) for seats in ways])
    return summed(pairs)


def is_right_form(kinds, wish, thing):
    if not is_form(thing, len(kind_samples(kinds)), wish_width(kinds, wish)):
        return False
    return fits(thing, kinds) and wish_of(thing) == as_tuples(wish)


def needless_samples(kinds, wish):
    check_can_tell(kinds, wish)
    shown, wish = kind_samples(kinds), as_tuples(wish)
    return tuple([sample for sample in range(len(shown)) if can_tell_shown(without(shown, sample), wish)])


def least_kinds(seens, wish):
    seens, wish = as_tuples(seens), as_tuples(wish)
    needs = needs_of(seens, wish)
    # Of one kind no more than factors of one pair are of use, each sample of it showing the same.
    counts = [()]
    for _ in seens:
        counts = [own + (k,) for own in counts for k in range(wish_degree(wish) + 1)]
    least = [own for own in counts if is_least(own, needs)]
    return sorted([tuple([(seen, k) for seen, k in zip(seens, own) if k > 0]) for own in least])


def needs_of(seens, wish):
    """Pairs (places of seens, number): so many samples of these kinds together are needed, no others will do."""
    out = []
    for size in range(len(seens) + 1):
        for lot in combinations(range(len(seens)), size):
            held = [held_by(seens, lot, factors) for factors, _ in wish]
            out.append((lot, max(held, default=0)))
    return out


def held_by(seens, lot, factors):
    """How many of the factors are shown by no kinds but those at these places."""
    return len([moment for moment in factors if all(place in lot for place in showers(seens, moment))])


def suffices(counts, needs):
    return all(sum([counts[place] for place in lot]) >= many for lot, many in needs)


def is_least(counts, needs):
    """Whether so many samples of each kind are enough, but not with one of them taken away."""
    if not suffices(counts, needs):
        return False
    return not any(suffices(fewer, needs) for fewer in one_less(counts))


def one_less(counts):
    return [counts[:k] + (many - 1,) + counts[k + 1:] for k, many in enumerate(counts) if many > 0]


def fewest_kinds(seens, wish):
    least = least_kinds(seens, wish)
    return min(least, key=count_and_kinds, default=None)


def count_and_kinds(kinds):
    return (len(kind_samples(kinds)), kinds)
