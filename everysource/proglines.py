"""The texts of PROGRAMS."""

from everysource.errors import BadLine
from everysource.figures import DIGITS, MOST_DIGITS, fraction_by, fraction_text, number_by, number_text
from everysource.programs import give_names, is_line, tells_in
from everysource.terms import LETTERS, SIGNS, Scope, are_names, is_name
from everysource.things import as_tuples

TERM_SIGNS = "/0123456789"


def program_text(program):
    columns, routines = as_tuples(program)
    rows = [" ".join(("columns",) + columns)]
    for title, draws, own in routines:
        rows.append(title + " draws " + number_text(draws))
        rows.extend(["  " + line_text(row) for row in own])
    return "\n".join(rows)


def line_text(row):
    if row[0] == "tell":
        return "tell " + term_text(row[1])
    if row[0] == "let":
        return row[1] + " = " + term_text(row[2])
    names = ", ".join(row[1])
    if row[0] == "throw":
        return "throw " + names + ": " + " | ".join([face_text(face) for face in row[2]])
    _, _, title, given = row
    places = [] if given is None else ["on"] + [number_text(place) for place in given]
    return names + " from " + " ".join([title] + places)


def face_text(face):
    weight, terms = face
    return fraction_text(weight) + ": " + ", ".join([term_text(term) for term in terms])


def term_text(term):
    parts = term[1] if term[0] == "plus" else (term,)
    out = ""
    for place, part in enumerate(parts):
        less = part[0] == "less"
        if place == 0:
            out = "-" if less else ""
        else:
            out = out + (" - " if less else " + ")
        out = out + product_text(part[1] if less else part)
    return out


def product_text(term):
    factors = term[1] if term[0] == "times" else (term,)
    return "*".join([factor_text(factor) for factor in factors])


def factor_text(term):
    if term[0] == "power":
        return atom_text(term[1]) + "^" + number_text(term[2])
    return atom_text(term)


def atom_text(term):
    if term[0] == "number":
        return fraction_text(term[1])
    if term[0] == "name":
        return term[1]
    if term[0] == "at":
        place = term[2] if isinstance(term[2], str) else number_text(term[2])
        return term[1] + "." + place
    if term[0] == "sum":
        return " ".join(("sum",) + term[1]) + " (" + term_text(term[2]) + ")"
    return "(" + term_text(term) + ")"


class Routine:
    """A routine as far as its text is read."""

    def __init__(self, title, scope):
        self.title = title
        self.scope = scope
        self.rows = []


def program_by(text):
    rows = text.split("\n")
    columns, known, routines = columns_by(rows[0]), {}, []
    for place, row in enumerate(rows[1:]):
        line = place + 2
        if routines and row.startswith("  "):
            add_row(routines[-1], row[2:], known, line)
        else:
            end_routine(routines, known, line)
            routines.append(routine_by(row, columns, known, line))
    if not routines:
        raise BadLine(len(rows) + 1)
    end_routine(routines, known, len(rows) + 1)
    return (columns, tuple([(own.title, own.scope.draws, tuple(own.rows)) for own in routines]))


def columns_by(row):
    word, blank, rest = row.partition(" ")
    columns = tuple(rest.split(" "))
    if word != "columns" or not blank or not are_names(columns):
        raise BadLine(1)
    return columns


def routine_by(row, columns, known, line):
    words = row.split(" ")
    draws = number_by(words[2], MOST_DIGITS) if len(words) == 3 and words[1] == "draws" else None
    if draws is None or not is_name(words[0]) or words[0] in known:
        raise BadLine(line)
    return Routine(words[0], Scope(columns, draws, {}, ()))


def end_routine(routines, known, line):
    """Lets the last routine, if there is one, be called by later ones; raises BadLine if it tells nothing."""
    if routines:
        last = routines[-1]
        if tells_in(last.rows) == 0:
            raise BadLine(line)
        known[last.title] = (last.scope.draws, tells_in(last.rows))


def add_row(routine, text, known, line):
    row = row_by(text, line)
    if not is_line(row, routine.scope, known):
        raise BadLine(line)
    give_names(routine.scope, row)
    routine.rows.append(row)


def row_by(text, line):
    """The LINE that is this text; whether it reads only what there is is not asked."""
    if text.startswith("tell "):
        return ("tell", term_by(text[5:], line))
    if text.startswith("throw "):
        names, _, faces = text[6:].partition(": ")
        return ("throw", tuple(names.split(", ")), tuple([face_by(face, line) for face in faces.split(" | ")]))
    names, sign, rest = text.partition(" = ")
    if sign:
        return ("let", names, term_by(rest, line))
    names, sign, rest = text.partition(" from ")
    if not sign:
        raise BadLine(line)
    title, *given = rest.split(" ")
    return ("call", tuple(names.split(", ")), title, given_by(given, line) if given else None)


def face_by(text, line):
    weight, _, terms = text.partition(": ")
    x = fraction_by(weight)
    if x is None:
        raise BadLine(line)
    return (x, tuple([term_by(term, line) for term in terms.split(", ")]))


def given_by(words, line):
    """The given samples, by the words behind the title."""
    places = [number_by(word, MOST_DIGITS) for word in words[1:]]
    if words[0] != "on" or None in places:
        raise BadLine(line)
    return tuple(places)


class Level:
    """What is read of a TERM in brackets, or of the outermost one."""

    def __init__(self, indexes, minus):
        self.indexes = indexes
        self.minus = minus
        self.factors = []
        self.parts = []

    def end_product(self):
        product = self.factors[0] if len(self.factors) == 1 else ("times", tuple(self.factors))
        self.parts.append(("less", product) if self.minus else product)
        self.factors = []

    def term(self):
        """The TERM, with the sum whose brackets these are."""
        term = self.parts[0] if len(self.parts) == 1 else ("plus", tuple(self.parts))
        return ("sum", self.indexes, term) if self.indexes else term


class Reader:
    """A text, read from left to right."""

    def __init__(self, text, line):
        self.text = text
        self.line = line
        self.at = 0

    def takes(self, word):
        """Whether the word stands here; if so the place is behind it then."""
        behind = self.at + len(word)
        if self.text[self.at:behind] != word:
            return False
        self.at = behind
        return True

    def run(self, signs):
        """All that stands here of these signs."""
        first = self.at
        while self.at < len(self.text) and self.text[self.at] in signs:
            self.at += 1
        return self.text[first:self.at]

    def sum_names(self):
        """The indexes of a sum, up to its bracket."""
        names = [self.run(SIGNS)]
        while self.takes(" "):
            if self.takes("("):
                return tuple(names)
            names.append(self.run(SIGNS))
        raise BadLine(self.line)

    def number(self):
        number = number_by(self.run(DIGITS), MOST_DIGITS)
        if number is None:
            raise BadLine(self.line)
        return number

    def atom(self):
        """The number, the name, or the number of a sample that stands here."""
        sign = self.text[self.at:self.at + 1]
        if sign != "" and sign in DIGITS:
            x = fraction_by(self.run(TERM_SIGNS))
            if x is None:
                raise BadLine(self.line)
            return ("number", x)
        word = self.run(SIGNS)
        if not self.takes("."):
            return ("name", word)
        sign = self.text[self.at:self.at + 1]
        return ("at", word, self.run(SIGNS) if sign != "" and sign in LETTERS else self.number())


def term_by(text, line):
    """The TERM that is this text; whether it reads only what there is is not asked."""
    reader, term = Reader(text, line), None
    levels = [Level((), reader.takes("-"))]
    while term is None:
        if reader.takes("("):
            levels.append(Level((), reader.takes("-")))
        elif reader.takes("sum "):
            indexes = reader.sum_names()
            levels.append(Level(indexes, reader.takes("-")))
        else:
            term = behind_atom(reader, levels, reader.atom())
    return term


def behind_atom(reader, levels, atom):
    """Reads on to the next atom, or to the end, and gives the whole TERM there; None ahead of it."""
    while True:
        level = levels[-1]
        level.factors.append(("power", atom, reader.number()) if reader.takes("^") else atom)
        if reader.takes("*"):
            return None
        level.end_product()
        level.minus = reader.takes(" - ")
        if level.minus or reader.takes(" + "):
            return None
        atom = levels.pop().term()
        if not levels and reader.at == len(reader.text):
            return atom
        if not levels or not reader.takes(")"):
            raise BadLine(reader.line)
