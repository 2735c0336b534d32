"""A Board of the tests' own, straight from the words of the document, and a desk with it."""

import copy
import itertools
from fractions import Fraction

import slow


class Refused(Exception):
    """The error that is raised: its name, and its value if it has one."""

    def __init__(self, name, *value):
        Exception.__init__(self, name, *value)
        self.name, self.value = name, value


def is_kinds_for(kinds, c):
    seens = [seen for seen, _ in kinds]
    return bool(kinds) and seens == sorted(set(seens)) and all(
        seen and list(seen) == sorted(set(seen)) and 0 <= seen[0] and seen[-1] < c and many >= 1 for seen, many in kinds)


class OwnBoard:

    def __init__(self, c, kinds):
        self.c = c
        self.state = {"kinds": [list(kind) for kind in kinds], "wish": {}, "forms": {}}
        self.past, self.kept, self.given_out = [], [], 0

    def shown(self):
        return [seen for seen, many in self.state["kinds"] for _ in range(many)]

    def deed(self):
        self.past.append(copy.deepcopy(self.state))

    def check(self, number, there):
        if number not in there:
            raise Refused("NoPlace", number)

    def check_tickets(self, *tickets):
        for ticket in tickets:
            self.check(ticket, self.state["forms"])

    def kinds(self):
        return tuple((seen, many) for seen, many in self.state["kinds"])

    def wish(self):
        return slow.from_sums(self.state["wish"])

    def form(self, ticket):
        self.check_tickets(ticket)
        return slow.from_sums(self.state["forms"][ticket])

    def tickets(self):
        return tuple(sorted(self.state["forms"]))

    def moved(self, change):
        for ticket, form in self.state["forms"].items():
            self.state["forms"][ticket] = {tuple(change(list(powers))): x for powers, x in form.items()}

    def more(self, kind):
        self.check(kind, range(len(self.state["kinds"])))
        place = sum(many for _, many in self.state["kinds"][:kind + 1])
        self.deed()
        self.state["kinds"][kind][1] += 1
        self.moved(lambda powers: powers[:place] + [(0,) * self.c] + powers[place:])
        return place

    def less(self, kind):
        self.check(kind, range(len(self.state["kinds"])))
        place = sum(many for _, many in self.state["kinds"][:kind + 1]) - 1
        used = any(any(powers[place]) for form in self.state["forms"].values() for powers in form)
        if self.state["kinds"][kind][1] == 1 or used:
            raise Refused("CanNot")
        self.deed()
        self.state["kinds"][kind][1] -= 1
        self.moved(lambda powers: powers[:place] + powers[place + 1:])

    def want(self, factors, share):
        self.deed()
        wish = self.state["wish"]
        wish[factors] = wish.get(factors, Fraction(0)) + slow.exact(share)

    def fits(self, form):
        shown = self.shown()
        return all(len(powers) == len(shown) and all(
            len(own) == self.c and slow.shows(seen, own) for own, seen in zip(powers, shown)) for powers in form)

    def take(self, form):
        table = {powers: slow.exact(x) for powers, x in form}
        if not self.fits(table):
            raise Refused("Unfit")
        self.deed()
        ticket, self.given_out = self.given_out, self.given_out + 1
        self.state["forms"][ticket] = table
        return ticket

    def drop(self, ticket):
        self.check_tickets(ticket)
        self.deed()
        del self.state["forms"][ticket]

    def rename(self, ticket, order):
        self.check_tickets(ticket)
        if sorted(order) != list(range(len(self.shown()))):
            raise Refused("Unfit")
        form = {powers: slow.exact(x) for powers, x in slow.renamed(self.form(ticket), order)}
        if not self.fits(form):
            raise Refused("Unfit")
        self.deed()
        self.state["forms"][ticket] = form

    def join(self, ticket, other, share):
        self.check_tickets(ticket, other)
        form = slow.plus(self.form(ticket), self.form(other), slow.exact(share))
        self.deed()
        self.state["forms"][ticket] = {powers: slow.exact(x) for powers, x in form}

    def mark(self):
        self.kept.append(copy.deepcopy(self.state))
        return len(self.kept) - 1

    def back(self, mark):
        self.check(mark, range(len(self.kept)))
        self.deed()
        self.state = copy.deepcopy(self.kept[mark])

    def undo(self):
        if not self.past:
            raise Refused("NothingDone")
        self.state = self.past.pop()

    def can_tell(self):
        shown = self.shown()
        return all(any(all(slow.shows(shown[seat], moment) for seat, moment in zip(seats, factors))
                       for seats in itertools.permutations(range(len(shown)), len(factors)))
                   for factors, _ in self.wish())

    def error(self, ticket):
        return slow.plus(slow.wish_of(self.form(ticket)), self.wish(), -1)

    def right_tickets(self):
        return tuple(ticket for ticket in self.tickets() if self.error(ticket) == ())

    def same(self, ticket, other):
        self.check_tickets(ticket, other)
        n = len(self.shown())
        return any(slow.renamed(self.form(ticket), order) == self.form(other) for order in slow.orders(n))

    def apart(self, ticket, other):
        self.check_tickets(ticket, other)
        one, far = slow.hung((self.form(ticket),)), slow.hung((self.form(other),))
        if len(set(one) | set(far)) > 5:
            raise Refused("TooMuch")
        return not set(one) & set(far)

    def changed(self, mark):
        self.check(mark, range(len(self.kept)))
        now, before = (self.right_tickets(), self.can_tell()), self.state
        self.state = self.kept[mark]
        old = (self.right_tickets(), self.can_tell())
        self.state = before
        return tuple(word for word, new, past in zip(("right", "seats"), now, old) if new != past)

    def mean_at(self, ticket, rows, spread):
        self.check_tickets(ticket)
        if any(len(row) != self.c for row in rows):
            raise Refused("Unfit")
        source, n, form = slow.even_rows(rows), len(self.shown()), self.form(ticket)
        if len(source) ** n > 8000:
            raise Refused("TooMuch")
        mean = slow.mean(form, source, n)
        if not spread:
            return mean
        return sum((chance * (slow.value(form, drawn) - mean) ** 2 for drawn, chance in slow.drawings(source, n)), Fraction(0))
