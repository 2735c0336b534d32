"""NAMES and TERMS of PROGRAMS: which are right, and what they come to."""

from itertools import permutations

from everysource.forms import number_form, sample_form
from everysource.polys import product_of, scaled
from everysource.quotients import summed
from everysource.things import is_fraction, is_number

LETTERS = "abcdefghijklmnopqrstuvwxyz"
SIGNS = "abcdefghijklmnopqrstuvwxyz0123456789"
BARRED = ("columns", "draws", "tell", "throw", "sum", "from", "on")
MOST_SIGNS = 12


class Scope:
    """What TERMS may read: columns, own samples, names that were given, and the indexes of the sums around."""

    def __init__(self, columns, draws, names, indexes):
        self.columns = columns
        self.draws = draws
        self.names = names
        self.indexes = indexes

    def within(self, indexes):
        """What TERMS may read in a sum with these indexes."""
        return Scope(self.columns, self.draws, self.names, self.indexes + indexes)


class Held:
    """What TERMS are told from: columns, the count of all samples, the own ones, and the FORMS that names hold."""

    def __init__(self, columns, n, own, names):
        self.columns = columns
        self.n = n
        self.own = own
        self.names = names


def is_name(thing):
    if not isinstance(thing, str) or not 1 <= len(thing) <= MOST_SIGNS or thing in BARRED:
        return False
    return thing[0] in LETTERS and all(sign in SIGNS for sign in thing)


def are_names(thing):
    """Whether thing is a tuple, not (), of unlike NAMES."""
    if not isinstance(thing, tuple) or thing == () or not all(is_name(part) for part in thing):
        return False
    return len(set(thing)) == len(thing)


def is_term(thing, scope):
    if not isinstance(thing, tuple) or thing == () or not isinstance(thing[0], str):
        return False
    if len(thing) == 2:
        return is_short_term(thing[0], thing[1], scope)
    return len(thing) == 3 and is_long_term(thing[0], thing[1], thing[2], scope)


def is_short_term(kind, part, scope):
    if kind == "number":
        return is_fraction(part) and part[0] >= 0
    if kind == "name":
        return isinstance(part, str) and part in scope.names
    if kind == "less":
        return is_term(part, scope)
    if kind not in ("plus", "times") or not isinstance(part, tuple) or len(part) < 2:
        return False
    return all(is_term(own, scope) for own in part)


def is_long_term(kind, part, more, scope):
    if kind == "at":
        return isinstance(part, str) and part in scope.columns and is_place(more, scope)
    if kind == "power":
        return is_number(more) and more >= 2 and is_term(part, scope)
    if kind != "sum" or not are_names(part) or any(index in scope.indexes for index in part):
        return False
    return is_term(more, scope.within(part))


def is_place(thing, scope):
    """Whether thing is the number of an own sample, or an index."""
    if is_number(thing):
        return 0 <= thing < scope.draws
    return isinstance(thing, str) and thing in scope.indexes


def term_form(term, held, places):
    """The FORM of what the TERM comes to; places has the own samples for which indexes stand."""
    kind, part = term[0], term[1]
    if kind == "number":
        return number_form(held.n, len(held.columns), part)
    if kind == "name":
        return held.names[part]
    if kind == "at":
        place = places.get(term[2], term[2])
        return sample_form(held.n, len(held.columns), held.own[place], held.columns.index(part))
    if kind == "less":
        return scaled(term_form(part, held, places), (-1, 1))
    if kind == "power":
        return product_of_all([term_form(part, held, places)] * term[2])
    if kind == "sum":
        return sum_form(part, term[2], held, places)
    forms = [term_form(own, held, places) for own in part]
    return product_of_all(forms) if kind == "times" else sum_of_all(forms)


def product_of_all(forms):
    out = forms[0]
    for form in forms[1:]:
        out = product_of(out, form)
    return out


def sum_of_all(forms):
    return summed([pair for form in forms for pair in form])


def sum_form(indexes, term, held, places):
    """The sum of what the TERM comes to over all ways in which the indexes stand for unlike own samples."""
    forms = []
    for chosen in permutations(range(len(held.own)), len(indexes)):
        inner = {index: place for index, place in places.items()}
        for index, place in zip(indexes, chosen):
            inner[index] = place
        forms.append(term_form(term, held, inner))
    return sum_of_all(forms)
