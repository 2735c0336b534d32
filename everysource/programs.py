"""PROGRAMS: which are right, in which ways they run, and what they tell."""

from everysource.errors import Unfit
from everysource.polys import placed
from everysource.quotients import ONE, summed, times, total
from everysource.terms import Held, Scope, are_names, is_name, is_term, term_form
from everysource.things import as_tuples, is_fraction_above_0, is_number, is_tuple_of


def is_program(thing):
    if not is_tuple_of(thing, 2) or not are_names(thing[0]):
        return False
    columns, routines = thing
    if not isinstance(routines, tuple) or routines == ():
        return False
    known = {}
    for routine in routines:
        if not is_routine(routine, columns, known):
            return False
        title, draws, rows = routine
        known[title] = (draws, tells_in(rows))
    return True


def is_routine(thing, columns, known):
    """Whether thing is a routine; known has what earlier ones draw and tell, by title."""
    if not is_tuple_of(thing, 3):
        return False
    title, draws, rows = thing
    if not is_name(title) or title in known or not is_number(draws) or draws < 0 or not isinstance(rows, tuple):
        return False
    scope = Scope(columns, draws, {}, ())
    for row in rows:
        if not is_line(row, scope, known):
            return False
        give_names(scope, row)
    return tells_in(rows) > 0


def is_line(thing, scope, known):
    """Whether thing is a LINE that reads no more than the Scope has."""
    if not isinstance(thing, tuple) or thing == () or not isinstance(thing[0], str):
        return False
    kind = thing[0]
    if kind == "tell":
        return is_tuple_of(thing, 2) and is_term(thing[1], scope)
    if kind == "let":
        return is_tuple_of(thing, 3) and is_name(thing[1]) and is_term(thing[2], scope)
    if kind == "throw":
        return is_tuple_of(thing, 3) and are_names(thing[1]) and are_faces(thing[2], len(thing[1]), scope)
    return kind == "call" and is_tuple_of(thing, 4) and is_call(thing, scope, known)


def are_faces(thing, many, scope):
    """Whether thing is a tuple of faces of so many TERMS."""
    if not isinstance(thing, tuple) or not all(is_face(face, many, scope) for face in thing):
        return False
    return total([weight for weight, _ in thing]) == ONE


def is_face(thing, many, scope):
    if not is_tuple_of(thing, 2) or not is_fraction_above_0(thing[0]) or not is_tuple_of(thing[1], many):
        return False
    return all(is_term(term, scope) for term in thing[1])


def is_call(thing, scope, known):
    _, names, title, given = thing
    if not are_names(names) or not isinstance(title, str) or title not in known:
        return False
    draws, tells = known[title]
    return len(names) == tells and (given is None or are_given(given, draws, scope.draws))


def are_given(thing, many, draws):
    """Whether thing is a tuple of so many unlike own samples."""
    if not is_tuple_of(thing, many) or not all(is_number(place) and 0 <= place < draws for place in thing):
        return False
    return len(set(thing)) == many


def given_names(row):
    """The names that the LINE gives something."""
    if row[0] == "tell":
        return ()
    return (row[1],) if row[0] == "let" else row[1]


def give_names(scope, row):
    """From here on what the LINE gives may be read."""
    for name in given_names(row):
        scope.names[name] = True


def tells_in(rows):
    """How many of the LINES are tells."""
    return len([row for row in rows if row[0] == "tell"])


def samples_in(program):
    _, routines = as_tuples(program)
    draws, anew = {}, {}
    for title, many, rows in routines:
        draws[title], anew[title] = many, 0
        for row in rows:
            if row[0] == "call":
                _, _, called, given = row
                anew[title] += anew[called] + (draws[called] if given is None else 0)
    last = routines[-1][0]
    return draws[last] + anew[last]


def dice_in(program):
    """The list of the weights of the faces of each die that is thrown in a run, in order."""
    dice = {}
    for title, _, rows in program[1]:
        dice[title] = []
        for row in rows:
            if row[0] == "throw":
                dice[title].append([weight for weight, _ in row[2]])
            if row[0] == "call":
                dice[title].extend(dice[row[2]])
    return dice[program[1][-1][0]]


def ways(program):
    out = [()]
    for weights in dice_in(as_tuples(program)):
        out = [way + (face,) for way in out for face in range(len(weights))]
    return out


def check_way(dice, way):
    """Raises Unfit if way is no WAY of these dice."""
    if not is_tuple_of(way, len(dice)) or not all(is_number(face) for face in way):
        raise Unfit()
    if not all(0 <= face < len(weights) for face, weights in zip(way, dice)):
        raise Unfit()


def way_weight(program, way):
    dice, way = dice_in(as_tuples(program)), as_tuples(way)
    check_way(dice, way)
    out = ONE
    for face, weights in zip(way, dice):
        out = times(out, weights[face])
    return out


def way_tells(program, way):
    program, way = as_tuples(program), as_tuples(way)
    check_way(dice_in(program), way)
    return Run(program, way).all_told()


class Run:
    """A run of a PROGRAM in which the dice fall in this WAY."""

    def __init__(self, program, way):
        self.columns = program[0]
        self.routines = program[1]
        self.n = samples_in(program)
        self.way = way
        self.thrown = 0
        self.drawn = 0

    def all_told(self):
        """The tuple of the FORMS told by the last routine."""
        title, draws, _ = self.routines[-1]
        return self.told_by(title, self.anew(draws))

    def anew(self, many):
        """So many samples that were not drawn before."""
        first = self.drawn
        self.drawn = first + many
        return tuple(range(first, self.drawn))

    def told_by(self, title, own):
        """The tuple of the FORMS told by this routine with these own samples."""
        held, out = Held(self.columns, self.n, own, {}), []
        for row in self.routine(title)[2]:
            if row[0] == "tell":
                out.append(term_form(row[1], held, {}))
            else:
                forms = self.forms_given(row, held)
                for name, form in zip(given_names(row), forms):
                    held.names[name] = form
        return tuple(out)

    def routine(self, title):
        return [routine for routine in self.routines if routine[0] == title][0]

    def forms_given(self, row, held):
        """The FORMS that the LINE gives its names."""
        if row[0] == "let":
            return (term_form(row[2], held, {}),)
        if row[0] == "throw":
            face = self.way[self.thrown]
            self.thrown += 1
            return tuple([term_form(term, held, {}) for term in row[2][face][1]])
        _, _, title, given = row
        if given is None:
            return self.told_by(title, self.anew(self.routine(title)[1]))
        return self.told_by(title, tuple([held.own[place] for place in given]))


def law_of(program):
    program = as_tuples(program)
    return summed([(way_tells(program, way), way_weight(program, way)) for way in ways(program)])


def program_of(teller, samples, columns):
    teller, columns = as_tuples(teller), as_tuples(columns)
    faces = tuple([(weight, tuple([term_of(form, columns) for form in tells])) for tells, weight in teller])
    names = tuple([f"t{place}" for place in range(len(teller[0][0]))])
    rows = [("tell", ("name", name)) for name in names]
    return (columns, (("main", samples, (("throw", names, faces),) + tuple(rows)),))


def term_of(form, columns):
    """A TERM that comes to the FORM."""
    terms = [monomial_term(powers, x, columns) for powers, x in form]
    if not terms:
        return ("number", (0, 1))
    return terms[0] if len(terms) == 1 else ("plus", tuple(terms))


def monomial_term(powers, x, columns):
    """A TERM for the FRACTION times the numbers of the ROWS to these powers."""
    factors = []
    for sample, own in enumerate(powers):
        for column, many in zip(columns, own):
            if many > 0:
                at = ("at", column, sample)
                factors.append(at if many == 1 else ("power", at, many))
    share = (abs(x[0]), x[1])
    if share != ONE or not factors:
        factors = [("number", share)] + factors
    term = factors[0] if len(factors) == 1 else ("times", tuple(factors))
    return term if x[0] > 0 else ("less", term)


def joined(one, other, samples, further, count):
    pairs = []
    for tells, weight in as_tuples(one):
        ahead = tuple([placed(form, 0, further, count) for form in tells])
        for more, share in as_tuples(other):
            behind = tuple([placed(form, samples, 0, count) for form in more])
            pairs.append((ahead + behind, times(weight, share)))
    return summed(pairs)
