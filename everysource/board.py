"""A Board: samples of some kinds, a WISH for them, and FORMS that they tell."""

from everysource.apart import are_apart
from everysource.chances import same_chances
from everysource.errors import CanNot, NoPlace, NothingDone, Unfit
from everysource.forms import fits, is_form, kind_samples
from everysource.polys import hung, renamed, scaled, with_idle, without_sample
from everysource.quotients import summed
from everysource.seats import can_tell_shown
from everysource.tables import single
from everysource.things import as_tuples, is_order_of
from everysource.wishes import wish_less, wish_of, wish_plus


class Board:
    """What is held is a triple (KINDS, WISH, pairs (ticket, FORM) by tickets), made anew by each deed."""

    def __init__(self, c, kinds):
        self._c = c
        self._now = (as_tuples(kinds), (), ())
        self._before = []
        self._kept = []
        self._next = 0

    def kinds(self):
        return self._now[0]

    def wish(self):
        return self._now[1]

    def form(self, ticket):
        for own, form in self._forms():
            if own == ticket:
                return form
        raise NoPlace(ticket)

    def tickets(self):
        return tuple([ticket for ticket, _ in self._forms()])

    def more(self, kind):
        place = self._behind(kind)
        wider = [(ticket, with_idle(form, place, self._c)) for ticket, form in self._forms()]
        self._do((counted(self.kinds(), kind, 1), self.wish(), tuple(wider)))
        return place

    def less(self, kind):
        last = self._behind(kind) - 1
        if self.kinds()[kind][1] == 1 or last in hung([form for _, form in self._forms()]):
            raise CanNot()
        fewer = [(ticket, without_sample(form, last)) for ticket, form in self._forms()]
        self._do((counted(self.kinds(), kind, -1), self.wish(), tuple(fewer)))

    def want(self, factors, share):
        added = scaled(((as_tuples(factors), (1, 1)),), as_tuples(share))
        self._do((self.kinds(), wish_plus(self.wish(), added), self._forms()))

    def take(self, form):
        form = as_tuples(form)
        if not self._is_right(form):
            raise Unfit()
        ticket = self._next
        self._next = ticket + 1
        self._hold(self._forms() + ((ticket, form),))
        return ticket

    def drop(self, ticket):
        self.form(ticket)
        self._hold(tuple([(own, form) for own, form in self._forms() if own != ticket]))

    def rename(self, ticket, order):
        form, order = self.form(ticket), as_tuples(order)
        if not is_order_of(order, len(kind_samples(self.kinds()))):
            raise Unfit()
        form = renamed(form, order)
        if not self._is_right(form):
            raise Unfit()
        self._put(ticket, form)

    def join(self, ticket, other, share):
        form, further = self.form(ticket), self.form(other)
        self._put(ticket, summed(form + scaled(further, as_tuples(share))))

    def mark(self):
        self._kept.append(self._now)
        return len(self._kept) - 1

    def back(self, mark):
        self._do(self._marked(mark))

    def undo(self):
        if not self._before:
            raise NothingDone()
        self._now = self._before.pop()

    def can_tell(self):
        return is_told(self._now)

    def error(self, ticket):
        return wish_less(wish_of(self.form(ticket)), self.wish())

    def right_tickets(self):
        return right_in(self._now)

    def same(self, ticket, other):
        form, further = self.form(ticket), self.form(other)
        return same_chances(single((form,)), single((further,)))

    def apart(self, ticket, other):
        form, further = self.form(ticket), self.form(other)
        return are_apart(single((form, further)), (0,), (1,))

    def changed(self, mark):
        kept = self._marked(mark)
        words = []
        if right_in(kept) != self.right_tickets():
            words.append("right")
        if is_told(kept) != self.can_tell():
            words.append("seats")
        return tuple(words)

    def _forms(self):
        return self._now[2]

    def _do(self, held):
        """Holds this from now on, so that it can be undone."""
        self._before.append(self._now)
        self._now = held

    def _hold(self, forms):
        self._do((self.kinds(), self.wish(), forms))

    def _put(self, ticket, form):
        """Holds this FORM under the ticket."""
        self._hold(tuple([(own, form if own == ticket else old) for own, old in self._forms()]))

    def _behind(self, kind):
        """The place behind the last sample of this kind."""
        kinds = self.kinds()
        if not 0 <= kind < len(kinds):
            raise NoPlace(kind)
        return sum([number for _, number in kinds[:kind + 1]])

    def _marked(self, mark):
        """What was kept under this mark."""
        if not 0 <= mark < len(self._kept):
            raise NoPlace(mark)
        return self._kept[mark]

    def _is_right(self, form):
        """Whether form is a FORM for all samples that fits the KINDS."""
        kinds = self.kinds()
        return is_form(form, len(kind_samples(kinds)), self._c) and fits(form, kinds)


def counted(kinds, kind, step):
    """The KINDS with so many more samples of this kind."""
    return tuple([(seen, number + (step if place == kind else 0)) for place, (seen, number) in enumerate(kinds)])


def is_told(held):
    """Whether the KINDS of what is held can tell its WISH."""
    kinds, wish, _ = held
    return can_tell_shown(kind_samples(kinds), wish)


def right_in(held):
    """The set of the tickets of what is held whose FORMS are right for its WISH."""
    _, wish, forms = held
    return tuple([ticket for ticket, form in forms if wish_of(form) == wish])
