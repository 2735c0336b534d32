"""Slow reckoning straight from the words of the document, and drawn things to try it on.

Nothing here uses the package, so that both can be held against each other.
"""

import random
from fractions import Fraction
from itertools import permutations, product


def exact(x):
    return Fraction(x[0], x[1])


def pair(x):
    x = Fraction(x)
    return (x.numerator, x.denominator)


def lists(value):
    """The same value with a list for each tuple."""
    return [lists(part) for part in value] if isinstance(value, (list, tuple)) else value


def only_tuples(value):
    """Whether value is a number, a string, None, True, False, or a tuple of such things."""
    if isinstance(value, tuple):
        return all(only_tuples(part) for part in value)
    return value is None or isinstance(value, (int, str))


def monomial(row, own):
    out = Fraction(1)
    for x, k in zip(row, own):
        out *= exact(x) ** k
    return out


def value(form, rows):
    out = Fraction(0)
    for powers, x in form:
        term = exact(x)
        for row, own in zip(rows, powers):
            term *= monomial(row, own)
        out += term
    return out


def from_sums(sums):
    return tuple((key, pair(sums[key])) for key in sorted(sums) if sums[key] != 0)


def added(pairs):
    sums = {}
    for key, x in pairs:
        sums[key] = sums.get(key, Fraction(0)) + x
    return sums


def renamed(form, order):
    out = {}
    for powers, x in form:
        moved = [None] * len(order)
        for i, own in enumerate(powers):
            moved[order[i]] = own
        out[tuple(moved)] = exact(x)
    return from_sums(out)


def renamed_tells(tells, order):
    return tuple(renamed(form, order) for form in tells)


def orders(n):
    return sorted(permutations(range(n)))


def evened(form, n):
    pairs = [(powers, exact(x)) for order in orders(n) for powers, x in renamed(form, order)]
    return from_sums({key: x / len(orders(n)) for key, x in added(pairs).items()})


def orbit(tells, n):
    return tuple(sorted(set(renamed_tells(tells, order) for order in orders(n))))


def hung(tells):
    return tuple(sorted({i for form in tells for powers, _ in form for i, own in enumerate(powers) if any(own)}))


def drawings(source, n):
    out = []
    for drawn in product(source, repeat=n):
        chance = Fraction(1)
        for _, x in drawn:
            chance *= exact(x)
        out.append((tuple(row for row, _ in drawn), chance))
    return out


def told(teller, source, n):
    """The dict of what is told, FRACTIONS as pairs, with its chance as a Fraction."""
    pairs = []
    for rows, chance in drawings(source, n):
        for tells, weight in teller:
            pairs.append((tuple(pair(value(form, rows)) for form in tells), exact(weight) * chance))
    return added(pairs)


def mean(form, source, n):
    return sum((chance * value(form, rows) for rows, chance in drawings(source, n)), Fraction(0))


def independent(table, lot, others):
    """Whether, in a dict of what is told, two lots of places are so, by the whole table."""
    both = added([((tuple(t[k] for k in lot), tuple(t[k] for k in others)), x) for t, x in table.items()])
    owns = added([(tuple(t[k] for k in lot), x) for t, x in table.items()])
    mores = added([(tuple(t[k] for k in others), x) for t, x in table.items()])
    return all(both.get((own, more), 0) == x * y for own, x in owns.items() for more, y in mores.items())


def wish_value(wish, source):
    out = Fraction(0)
    for factors, x in wish:
        term = exact(x)
        for moment in factors:
            term *= sum(exact(chance) * monomial(row, moment) for row, chance in source)
        out += term
    return out


class Drawn:
    """Drawn things, always the same ones for one seed."""

    def __init__(self, seed):
        self.random = random.Random(seed)

    def number(self, low, high):
        return self.random.randint(low, high)

    def choice(self, options):
        return self.random.choice(options)

    def fraction(self, most=3):
        return pair(Fraction(self.number(-most, most), self.number(1, most)))

    def fraction_not_0(self, most=3):
        return pair(Fraction(self.choice([-1, 1]) * self.number(1, most), self.number(1, most)))

    def shares(self, many):
        parts = [self.number(1, 4) for _ in range(many)]
        return [pair(Fraction(part, sum(parts))) for part in parts]

    def powers(self, n, c, high=2):
        return tuple(tuple(self.choice([0, 0, self.number(0, high)]) for _ in range(c)) for _ in range(n))

    def form(self, n, c, pairs=3, high=2):
        return from_sums(added([
            (self.powers(n, c, high), exact(self.fraction_not_0())) for _ in range(self.number(0, pairs))]))

    def tells(self, n, c, t, pairs=3):
        return tuple(self.form(n, c, pairs) for _ in range(t))

    def teller(self, n, c, t, most=3, pairs=3):
        shares = self.shares(self.number(1, most))
        return from_sums(added([(self.tells(n, c, t, pairs), exact(share)) for share in shares]))

    def row(self, c, most=3):
        return tuple(self.fraction(most) for _ in range(c))

    def source(self, c, most=3, high=3):
        shares = self.shares(self.number(1, most))
        return ranked(added([(self.row(c, high), exact(share)) for share in shares]))

    def order(self, n):
        return tuple(self.random.sample(range(n), n))

    def moment(self, c, high=3):
        while True:
            own = tuple(self.number(0, high) for _ in range(c))
            if any(own):
                return own

    def wish(self, c, pairs=3, factors=2):
        return from_sums(added([
            (tuple(sorted(self.moment(c) for _ in range(self.number(0, factors)))), exact(self.fraction_not_0()))
            for _ in range(self.number(0, pairs))]))


def ranked(sums):
    """A SOURCE of the ROWS with these chances, in order by quotients."""
    return tuple((row, pair(sums[row])) for row in sorted(sums, key=lambda row: [exact(x) for x in row]))


def shuffled_law(drawn, teller, n):
    """A TELLER with each of its tells renamed, some of them parted into several names of theirs."""
    pairs = []
    for tells, weight in teller:
        many = drawn.number(1, 2)
        for share in drawn.shares(many):
            pairs.append((renamed_tells(tells, drawn.order(n)), exact(weight) * exact(share)))
    return from_sums(added(pairs))


def places_in(thing, path=()):
    """All paths to parts of a nested tuple, () for the whole."""
    out = [path]
    if isinstance(thing, tuple):
        for k, part in enumerate(thing):
            out.extend(places_in(part, path + (k,)))
    return out


def part_at(thing, path):
    for k in path:
        thing = thing[k]
    return thing


def with_part(thing, path, part):
    if not path:
        return part
    k = path[0]
    return thing[:k] + (with_part(thing[k], path[1:], part),) + thing[k + 1:]


def deep(levels, kind=tuple):
    out = kind()
    for _ in range(levels):
        out = kind([out])
    return out


def spoiled(thing):
    """Things that are like thing in all but one place, where something stands that is right nowhere."""
    out = []
    for path in places_in(thing):
        part = part_at(thing, path)
        for other in (None, True, False, "", "x", "0", (None,), [], [1], deep(60), deep(60, list), (1, 2, 3, "x")):
            out.append(with_part(thing, path, other))
        if isinstance(part, tuple):
            out.append(with_part(thing, path, list(part)))
            out.append(with_part(thing, path, lists(part)))
            out.append(with_part(thing, path, part + (None,)))
            out.append(with_part(thing, path, part + (True,)))
            out.append(with_part(thing, path, (part, None)))
        else:
            out.append(with_part(thing, path, (part,)))
            out.append(with_part(thing, path, str(part) + " "))
            if not isinstance(part, str):
                out.append(with_part(thing, path, str(part)))
    return out


STRANGE = (
    None, True, False, 0, 1, -1, "", "x", "((", [], [[]], [()], ((),), (((),),), (None,), (0,), (True,), ("",),
    ((), ()), ((), None), (((), (1, 1)), None), ((1, 1),), (((), (1, 1), ()),), deep(99), deep(99, list),
    (1, 2, 3), ((1, 2), (3, 4)), (((0,), 1), None), 10 ** 40, (10 ** 40,), "x" * 1000,
)


def kinds_of(drawn, c, most=4, few=9):
    """KINDS for c columns with at most so many samples, often of few kinds."""
    seens = [tuple(k for k in range(c) if bits >> k & 1) for bits in range(1, 2 ** c)]
    options, out = [drawn.choice(seens) for _ in range(few)], {}
    for _ in range(drawn.choice((drawn.number(1, most), most))):
        seen = drawn.choice(options)
        out[seen] = out.get(seen, 0) + 1
    return tuple(sorted(out.items()))


def shown_by(kinds):
    return [seen for seen, many in kinds for _ in range(many)]


def shows(seen, moment):
    return all(k == 0 or column in seen for column, k in enumerate(moment))


def fitting_form(drawn, kinds, c, pairs=3, high=2):
    """A FORM that fits KINDS."""
    shown = shown_by(kinds)
    out = []
    for _ in range(drawn.number(0, pairs)):
        fit = tuple(tuple(drawn.number(0, high) if column in seen else 0 for column in range(c))
                    if drawn.number(0, 2) else (0,) * c for seen in shown)
        out.append((fit, exact(drawn.fraction_not_0())))
    return from_sums(added(out))


def times(form, other):
    """The product of two FORMS."""
    return from_sums(added([
        (tuple(tuple(k + m for k, m in zip(own, far)) for own, far in zip(powers, more)), exact(x) * exact(y))
        for powers, x in form for more, y in other]))


def plus(form, other, share=1):
    """The sum of one and share times other, also of WISHES and TOTALS."""
    return from_sums(added([(key, exact(x)) for key, x in form] + [(key, share * exact(x)) for key, x in other]))


def wish_of(form):
    return from_sums(added([(tuple(sorted(own for own in powers if any(own))), exact(x)) for powers, x in form]))


def partings(many):
    """All ways in which so many places fall into lots, each a list of lots of places."""
    if many == 0:
        return [[]]
    out = []
    for lots in partings(many - 1):
        out.append(lots + [[many - 1]])
        for k, lot in enumerate(lots):
            out.append(lots[:k] + [lot + [many - 1]] + lots[k + 1:])
    return out


def spread(teller, source, n):
    """The mean of the square of what a TELLER of one tell tells less the square of its mean."""
    table = told(teller, source, n)
    first = sum((x * exact(numbers[0]) for numbers, x in table.items()), Fraction(0))
    return sum((x * exact(numbers[0]) ** 2 for numbers, x in table.items()), Fraction(0)) - first ** 2


def source_of_rows(drawn, c, many, high=9):
    """A SOURCE of just so many ROWS."""
    while True:
        rows = {drawn.row(c, high) for _ in range(many)}
        if len(rows) == many:
            return ranked(added(list(zip(sorted(rows), [exact(x) for x in drawn.shares(many)]))))


def null_line(table):
    """FRACTIONS, not all 0, whose products with each line of the table come to 0, where places outnumber lines."""
    table, places = [list(line) for line in table], []
    for column in range(len(table[0])):
        first = next((k for k in range(len(places), len(table)) if table[k][column] != 0), None)
        if first is None:
            out = [Fraction(0)] * len(table[0])
            out[column] = Fraction(1)
            for k, place in enumerate(places):
                out[place] = -table[k][column]
            return out
        done = len(places)
        table[done], table[first] = table[first], table[done]
        table[done] = [x / table[done][column] for x in table[done]]
        for k in range(len(table)):
            if k != done:
                table[k] = [x - table[k][column] * y for x, y in zip(table[k], table[done])]
        places.append(column)


def wish_degree(wish):
    return max((len(factors) for factors, _ in wish), default=0)


def solution(table, right):
    """FRACTIONS as Fractions that times the places of each line come to right, None if there are none."""
    lines = [[Fraction(x) for x in line] + [Fraction(y)] for line, y in zip(table, right)]
    many, places = len(table[0]) if table else 0, []
    for column in range(many):
        first = next((k for k in range(len(places), len(lines)) if lines[k][column] != 0), None)
        if first is None:
            continue
        done = len(places)
        lines[done], lines[first] = lines[first], lines[done]
        lines[done] = [x / lines[done][column] for x in lines[done]]
        for k in range(len(lines)):
            if k != done:
                lines[k] = [x - lines[k][column] * y for x, y in zip(lines[k], lines[done])]
        places.append(column)
    if any(line[-1] != 0 for line in lines[len(places):]):
        return None
    out = [Fraction(0)] * many
    for k, column in enumerate(places):
        out[column] = lines[k][-1]
    return out


def falling(n, many):
    out = 1
    for k in range(many):
        out *= n - k
    return out


def plain_mean(wish, n):
    """The WISH of the mean of the plain program of n samples, parting by parting."""
    pairs = []
    for factors, x in wish:
        for lots in partings(len(factors)):
            moments = [tuple(sum(k) for k in zip(*[factors[place] for place in lot])) for lot in lots]
            share = Fraction(falling(n, len(lots)), n ** len(factors))
            pairs.append((tuple(sorted(moments)), exact(x) * share))
    return from_sums(added(pairs))


def even_rows(rows):
    """The SOURCE in which each of the rows is drawn alike."""
    return ranked(added([(row, Fraction(1, len(rows))) for row in rows]))


def scaled(pairs, x):
    return from_sums({key: exact(y) * x for key, y in pairs if x != 0})


def wish_table(wishes, wish):
    """The lines of an equation for each factors: what stands in the wishes, and in the one they are to come to."""
    keys = sorted({factors for own in list(wishes) + [wish] for factors, _ in own})
    own = [dict(part) for part in wishes]
    return ([[exact(part.get(key, (0, 1))) for part in own] for key in keys],
            [exact(dict(wish).get(key, (0, 1))) for key in keys])
