"""PROGRAMS that are drawn, and run with numbers alone: LINE by LINE, drawing by drawing and face by face."""

import itertools
from fractions import Fraction

import slow


class Runner:
    """Runs a PROGRAM on ROWS that are handed out in the order in which samples are drawn, and on faces likewise."""

    def __init__(self, program, rows, faces):
        self.columns, routines = program
        self.routines = {title: (draws, lines) for title, draws, lines in routines}
        self.rows, self.faces = list(rows), list(faces)
        self.weight, self.drawn, self.dice = Fraction(1), 0, []
        self.last = routines[-1][0]

    def draw(self):
        self.drawn += 1
        return self.rows.pop(0)

    def told(self):
        return self.call(self.last, [self.draw() for _ in range(self.routines[self.last][0])])

    def call(self, title, own):
        names, out = {}, []
        for line in self.routines[title][1]:
            kind = line[0]
            if kind == "tell":
                out.append(self.worth(line[1], own, names, {}))
            elif kind == "let":
                names[line[1]] = self.worth(line[2], own, names, {})
            elif kind == "throw":
                face = self.faces.pop(0)
                self.dice.append(len(line[2]))
                weight, terms = line[2][face]
                self.weight *= slow.exact(weight)
                names.update(dict(zip(line[1], [self.worth(term, own, names, {}) for term in terms])))
            else:
                _, given_names, called, given = line
                many = self.routines[called][0]
                rows = [self.draw() for _ in range(many)] if given is None else [own[place] for place in given]
                names.update(dict(zip(given_names, self.call(called, rows))))
        return out

    def worth(self, term, own, names, indexes):
        kind = term[0]
        if kind == "number":
            return slow.exact(term[1])
        if kind == "name":
            return names[term[1]]
        if kind == "at":
            place = indexes[term[2]] if isinstance(term[2], str) else term[2]
            return slow.exact(own[place][self.columns.index(term[1])])
        if kind == "less":
            return -self.worth(term[1], own, names, indexes)
        if kind == "power":
            return self.worth(term[1], own, names, indexes) ** term[2]
        if kind == "sum":
            return sum((self.worth(term[2], own, names, {**indexes, **dict(zip(term[1], places))})
                        for places in itertools.product(range(len(own)), repeat=len(term[1]))
                        if len(set(places)) == len(places)), Fraction(0))
        parts = [self.worth(part, own, names, indexes) for part in term[1]]
        if kind == "plus":
            return sum(parts, Fraction(0))
        out = Fraction(1)
        for part in parts:
            out *= part
        return out


class Endless:
    """Rows or faces without an end, to see how many are taken."""

    def __init__(self, row):
        self.row = row

    def pop(self, _):
        return self.row


def counts(program):
    """How many samples a run draws, and how many faces each die has, in order."""
    runner = Runner(program, (), ())
    runner.rows, runner.faces = Endless(((0, 1),) * len(program[0])), Endless(0)
    runner.told()
    return runner.drawn, runner.dice


def told_by_run(program, rows, way):
    """The tuple of what is told, as pairs, and the chance of the faces."""
    runner = Runner(program, rows, way)
    numbers = tuple(slow.pair(x) for x in runner.told())
    assert runner.rows == [] and runner.faces == []
    return numbers, runner.weight


def told_chances(program, source):
    """The dict of what is told in a SOURCE with its chance."""
    n, dice = counts(program)
    pairs = []
    for rows, chance in slow.drawings(source, n):
        for way in itertools.product(*[range(many) for many in dice]):
            numbers, weight = told_by_run(program, rows, way)
            pairs.append((numbers, chance * weight))
    return slow.added(pairs)


NAMES = ("a", "b", "x", "main", "c2", "let", "i")
INDEXES = ("i", "j", "x", "a")


class Writer:
    """Draws PROGRAMS."""

    def __init__(self, seed, samples=3, ways=6):
        self.things = slow.Drawn(seed)
        self.samples, self.ways = samples, ways

    def program(self):
        while True:
            program = self.any_program()
            n, dice = counts(program)
            many = 1
            for faces in dice:
                many *= faces
            if n <= self.samples and many <= self.ways:
                return program

    def any_program(self):
        things = self.things
        columns = tuple(things.random.sample(("x", "y", "main", "sum1"), things.number(1, 2)))
        titles = things.random.sample(("main", "pair", "x", "r9"), things.choice([1, 2, 2, 3]))
        known, routines = {}, []
        for title in titles:
            draws = things.choice([0, 1, 1, 2])
            lines = self.lines(columns, draws, known)
            known[title] = (draws, len([line for line in lines if line[0] == "tell"]))
            routines.append((title, draws, lines))
        return columns, tuple(routines)

    def lines(self, columns, draws, known):
        things, names, out = self.things, [], []
        wanted = ["tell"] + [things.choice(["tell", "let", "throw", "throw", "call", "call"]) for _ in range(things.number(1, 4))]
        things.random.shuffle(wanted)
        for kind in wanted:
            line = self.line(kind, columns, draws, known, names)
            out.append(line)
            if line[0] != "tell":
                names.extend([line[1]] if line[0] == "let" else line[1])
        return tuple(out)

    def line(self, kind, columns, draws, known, names):
        things = self.things

        def term(deep=2):
            return self.term(columns, draws, names, (), deep)

        if kind == "call" and known:
            title = things.choice(sorted(known))
            many, tells = known[title]
            given = None
            if many <= draws and things.number(0, 1):
                given = tuple(things.random.sample(range(draws), many))
            return ("call", tuple(things.random.sample(NAMES, tells)), title, given)
        if kind == "throw":
            own = tuple(things.random.sample(NAMES, things.number(1, 2)))
            shares = things.shares(things.number(1, 3))
            return ("throw", own, tuple((share, tuple(term(1) for _ in own)) for share in shares))
        if kind == "tell":
            return ("tell", term())
        return ("let", things.choice(NAMES), term())

    def term(self, columns, draws, names, indexes, deep):
        things = self.things
        kinds = ["number"] + ["name"] * (4 if names else 0) + ["at"] * (3 if draws or indexes else 0)
        if deep > 0:
            kinds += ["less", "plus", "plus", "times", "times", "power", "sum", "sum"]
        kind = things.choice(kinds)

        def inner(more=()):
            return self.term(columns, draws, names, indexes + more, deep - 1)

        if kind == "number":
            return ("number", slow.pair(Fraction(things.number(0, 4), things.number(1, 3))))
        if kind == "name":
            return ("name", things.choice(names))
        if kind == "at":
            return ("at", things.choice(columns), things.choice(list(range(draws)) + list(indexes)))
        if kind == "less":
            return ("less", inner())
        if kind == "power":
            return ("power", inner(), things.number(2, 3))
        if kind == "sum":
            free = [index for index in INDEXES if index not in indexes]
            own = tuple(things.random.sample(free, things.number(1, min(2, len(free))))) if free else ()
            return ("sum", own, inner(own)) if own else ("number", (1, 1))
        return (kind, tuple(inner() for _ in range(things.number(2, 3))))
