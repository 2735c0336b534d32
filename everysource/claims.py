"""What a CLAIM is, kind by kind."""

from everysource.drawings import is_law
from everysource.forms import fits, is_form, is_kinds
from everysource.steady import is_gain
from everysource.sums import is_total
from everysource.things import is_fraction, is_number, is_tuple_of, rises
from everysource.wishes import is_wish


def inner(thing, places):
    """What stands in thing at the first of these places, there at the second, and so on; None if there is none."""
    for place in places:
        if not isinstance(thing, tuple) or len(thing) <= place:
            return None
        thing = thing[place]
    return thing


def length(thing):
    """The length of a tuple; 0 for anything else."""
    return len(thing) if isinstance(thing, tuple) else 0


def law_shape(thing):
    """The counts of samples and of columns that FORMS in a TELLER show; 0 where they do not."""
    for place in range(length(thing)):
        tells = inner(thing, (place, 0))
        for tell in range(length(tells)):
            powers = inner(tells, (tell, 0, 0))
            if powers is not None:
                return (length(powers), length(inner(powers, (0,))))
    return (0, 0)


def is_any_law(thing):
    """Whether thing is a TELLER, for whatever many samples and columns."""
    n, c = law_shape(thing)
    return is_law(thing, n, max(c, 1))


def are_alike_laws(thing, other):
    """Whether both are TELLERS with as many columns and as many tells; FORMS may show no columns."""
    if not is_any_law(thing) or not is_any_law(other) or len(thing[0][0]) != len(other[0][0]):
        return False
    c, far = law_shape(thing)[1], law_shape(other)[1]
    return c == far or c == 0 or far == 0


def is_right_claim(thing):
    """Whether thing is a CLAIM of any kind."""
    kind = inner(thing, (0,))
    if kind == "same":
        return is_same_claim(thing)
    if kind == "apart":
        return is_apart_claim(thing)
    if kind == "needs":
        return is_needs_claim(thing)
    if kind == "told":
        return is_told_claim(thing)
    if kind == "best":
        return is_best_claim(thing)
    if kind == "kept":
        return is_kept_claim(thing)
    if kind == "steady":
        return is_steady_claim(thing)
    return kind == "most" and is_most_claim(thing)


def is_same_claim(thing):
    return is_tuple_of(thing, 3) and are_alike_laws(thing[1], thing[2])


def is_apart_claim(thing):
    if not is_tuple_of(thing, 4) or not is_any_law(thing[1]):
        return False
    _, teller, lot, others = thing
    many = len(teller[0][0])
    return is_lot(lot, many) and is_lot(others, many) and not any(place in others for place in lot)


def is_lot(thing, many):
    """Whether thing is a set, not (), of some of so many places."""
    if not isinstance(thing, tuple) or thing == () or not all(is_number(place) for place in thing):
        return False
    return rises(thing) and thing[0] >= 0 and thing[-1] < many


def is_needs_claim(thing):
    return is_tuple_of(thing, 3) and is_any_law(thing[1]) and is_count(thing[2])


def is_count(thing):
    return is_number(thing) and thing >= 0


def is_told_claim(thing):
    if not is_tuple_of(thing, 3):
        return False
    _, kinds, wish = thing
    c = wish_columns_shown(wish)
    c = columns_shown(kinds) if c == 0 else c
    return is_kinds(kinds, c) and is_wish(wish, c)


def wish_columns_shown(thing):
    """The count of columns that MOMENTS in a WISH show, 0 if there are none."""
    for place in range(length(thing)):
        moment = inner(thing, (place, 0, 0))
        if moment is not None:
            return length(moment)
    return 0


def columns_shown(thing):
    """1 more than the greatest of the columns in KINDS."""
    columns = [0]
    for place in range(length(thing)):
        seen = inner(thing, (place, 0))
        columns.extend([column for column in (seen if isinstance(seen, tuple) else ()) if is_number(column)])
    return max(columns) + 1


def is_best_claim(thing):
    if not is_tuple_of(thing, 3):
        return False
    _, kinds, form = thing
    if form == ():
        return is_kinds(kinds, columns_shown(kinds))
    c = length(inner(form, (0, 0, 0)))
    if not is_kinds(kinds, c) or not is_form(form, sum([number for _, number in kinds]), c):
        return False
    return fits(form, kinds)


def is_kept_claim(thing):
    if not is_tuple_of(thing, 4) or not is_number(thing[2]) or thing[2] < 1:
        return False
    return is_total(thing[1], thing[2]) and is_count(thing[3])


def is_steady_claim(thing):
    return is_tuple_of(thing, 2) and is_gain(thing[1])


def is_most_claim(thing):
    return is_tuple_of(thing, 3) and is_gain(thing[1]) and is_fraction(thing[2])
