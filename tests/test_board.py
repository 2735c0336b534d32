import inspect
import unittest

import slow
from everysource.board import Board
from everysource.errors import CanNot, NoPlace, NothingDone, TooMuch, Unfit
from everysource.forms import is_form, is_kinds
from everysource.wishes import is_wish
from own_board import OwnBoard, Refused

HALF, UNIT = (1, 2), (1, 1)
HUGE = 10 ** 30 + 57
PAIR = (((0,), 1), ((0, 1), 1))
METHODS = {
    "kinds": [], "wish": [], "form": ["ticket"], "tickets": [], "more": ["kind"], "less": ["kind"],
    "want": ["factors", "share"], "take": ["form"], "drop": ["ticket"], "rename": ["ticket", "order"],
    "join": ["ticket", "other", "share"], "mark": [], "back": ["mark"], "undo": [], "can_tell": [], "error": ["ticket"],
    "right_tickets": [], "same": ["ticket", "other"], "apart": ["ticket", "other"], "changed": ["mark"]}
ASKED = ("kinds", "wish", "tickets", "can_tell", "right_tickets")


def outcome(board, name, args, how=0):
    """What a call comes to: its value, or the name of its error and what the error keeps."""
    try:
        method = getattr(board, name)
        if how == 1 and isinstance(board, Board):
            return ("value", method(**dict(zip(METHODS[name], args))))
        if how == 2 and isinstance(board, Board):
            return ("value", method(*slow.lists(args)))
        return ("value", method(*args))
    except Refused as error:
        return (error.name,) + error.value
    except (LookupError, ValueError) as error:
        return (error.__class__.__name__,) + tuple(vars(error).values())


def held(board):
    """All that a Board holds and tells of itself."""
    out = [getattr(board, name)() for name in ASKED]
    for ticket in board.tickets():
        out.append((board.form(ticket), board.error(ticket)))
    return out


class Deeds:
    """Draws deeds and questions, most of them such as can be done."""

    def __init__(self, seed, c):
        self.things, self.c = slow.Drawn(seed), c

    def ticket(self, own):
        return self.things.choice(list(own.tickets()) * 4 + [self.things.number(-1, 9)])

    def form(self, own):
        things, kind = self.things, self.things.number(0, 9)
        if kind == 0:
            return things.form(len(own.shown()) + things.number(-1, 1), self.c)
        if kind == 1:
            return ()
        if kind == 2 and own.tickets():
            # The same chances, or not, as what is held.
            return slow.renamed(own.form(things.choice(own.tickets())), things.order(len(own.shown())))
        if kind < 5 and own.wish():
            return self.right(own)
        return slow.fitting_form(things, own.kinds(), self.c, 2, 2)

    def right(self, own):
        """A FORM that is often right for what is wished."""
        shown, pairs = own.shown(), []
        for factors, x in own.wish():
            powers = [(0,) * self.c] * len(shown)
            for moment in factors:
                free = [k for k, seen in enumerate(shown) if slow.shows(seen, moment) and not any(powers[k])]
                if not free:
                    return ()
                powers[self.things.choice(free)] = moment
            pairs.append((tuple(powers), slow.exact(x)))
        return slow.from_sums(slow.added(pairs))

    def order(self, own):
        n = len(own.shown())
        kind = self.things.number(0, 9)
        if kind == 0:
            return tuple(self.things.number(0, n) for _ in range(n + self.things.number(-1, 1)))
        return self.things.order(n)

    def factors(self):
        own = [tuple(self.things.choice([0, 1, 1, 2]) for _ in range(self.c)) for _ in range(self.things.number(0, 2))]
        return tuple(sorted(moment for moment in own if any(moment)))

    def drawn(self, own):
        things = self.things
        name = things.choice(("more", "less", "want", "want", "take", "take", "take", "drop", "rename", "rename", "join", "join",
                              "mark", "back", "undo", "form", "error", "same", "apart", "changed"))
        if name in ("more", "less"):
            few = len(own.shown()) < 4
            kind = things.choice(list(range(len(own.kinds()))) * 4 + [-1, 5])
            return ("more" if name == "more" and few else "less", (kind,))
        if name == "want":
            share = things.choice([things.fraction(), UNIT, (-1, 1), (0, 1)])
            # What is wished is taken back now and then.
            if own.wish() and things.number(0, 2) == 0:
                factors, x = things.choice(own.wish())
                return name, (factors, (-x[0], x[1]))
            return name, (self.factors(), share)
        if name == "take":
            return name, (self.form(own),)
        if name == "rename":
            return name, (self.ticket(own), self.order(own))
        if name == "join":
            return name, (self.ticket(own), self.ticket(own), things.choice([things.fraction(), (-1, 1), (0, 1)]))
        if name in ("same", "apart"):
            return name, (self.ticket(own), self.ticket(own))
        if name in ("drop", "form", "error"):
            return name, (self.ticket(own),)
        if name in ("back", "changed"):
            return name, (things.choice(list(range(len(own.kept))) * 4 + [-1, len(own.kept)]),)
        return name, ()


class BoardTest(unittest.TestCase):

    def test_interface(self):
        self.assertEqual(list(inspect.signature(Board).parameters), ["c", "kinds"])
        for name, arguments in METHODS.items():
            self.assertIn(name, vars(Board))
            self.assertEqual(list(inspect.signature(vars(Board)[name]).parameters)[1:], arguments)
        self.assertEqual(Board(kinds=PAIR, c=2).kinds(), PAIR)

    def test_against_a_board_of_our_own(self):
        errors, words = {}, {}
        for seed in range(150):
            deeds = Deeds(seed, seed % 2 + 1)
            kinds = slow.kinds_of(deeds.things, deeds.c, 3)
            board, own = Board(deeds.c, slow.lists(kinds) if seed % 3 else kinds), OwnBoard(deeds.c, kinds)
            for step in range(30):
                name, args = deeds.drawn(own)
                want = outcome(own, name, args)
                given = (slow.lists(args), args)[step % 2]
                self.assertEqual(outcome(board, name, given, step % 3), want, (seed, step, name, args))
                if name in ("form", "error", "same", "apart", "changed"):
                    self.assertEqual(outcome(board, name, args), want)
                self.assertEqual(given, (slow.lists(args), args)[step % 2])
                self.assertEqual(held(board), held(own), (seed, step, name, args))
                self.assertTrue(is_kinds(board.kinds(), deeds.c) and is_wish(board.wish(), deeds.c))
                self.assertTrue(all(is_form(board.form(k), len(own.shown()), deeds.c) for k in board.tickets()))
                errors[want[0], name] = errors.get((want[0], name), 0) + 1
                words[want] = words.get(want, 0) + 1
        for key in (("CanNot", "less"), ("NoPlace", "more"), ("NoPlace", "join"), ("Unfit", "take"), ("Unfit", "rename"),
                    ("NothingDone", "undo"), ("NoPlace", "back"), ("value", "back"), ("value", "less"), ("value", "rename")):
            self.assertGreater(errors.get(key, 0), 2, key)
        for value in ((), ("right",), ("seats",), True, False):
            self.assertGreater(words.get(("value", value), 0), 2, value)

    def test_at_first(self):
        board = Board(1, (((0,), 1),))
        self.assertEqual(held(board), [(((0,), 1),), (), (), True, ()])
        self.assertEqual(outcome(board, "undo", ()), ("NothingDone",))
        self.assertEqual(outcome(board, "changed", (0,)), ("NoPlace", 0))
        for name, args in (("form", (0,)), ("drop", (0,)), ("rename", (0, (1, 1))), ("join", (0, 1, UNIT)), ("back", (0,)),
                           ("error", (0,)), ("same", (0, 0)), ("apart", (0, 0)), ("changed", (0,)), ("more", (1,)), ("less", (1,)),
                           ("more", (-1,)), ("less", (-1,))):
            self.assertEqual(outcome(board, name, args), ("NoPlace", args[0]), name)
        self.assertEqual(held(board), [(((0,), 1),), (), (), True, ()])

    def test_order_of_errors(self):
        board = Board(2, PAIR)
        form = ((((0, 0), (0, 1)), UNIT),)
        self.assertEqual(board.take(form), 0)
        self.assertEqual(outcome(board, "join", (5, 6, UNIT)), ("NoPlace", 5))
        self.assertEqual(outcome(board, "join", (0, 6, UNIT)), ("NoPlace", 6))
        self.assertEqual(outcome(board, "same", (0, -1)), ("NoPlace", -1))
        self.assertEqual(outcome(board, "apart", (7, 8)), ("NoPlace", 7))
        self.assertEqual(outcome(board, "rename", (1, (0, 0))), ("NoPlace", 1))
        for order in ((0, 0), (0,), (0, 1, 2), (), (1, 2), (1, 0), (True, 0), (0, -1)):
            self.assertEqual(outcome(board, "rename", (0, order)), ("Unfit",), order)
        self.assertEqual(outcome(board, "rename", (0, (0, 1))), ("value", None))
        self.assertEqual(board.take(()), 1)
        for order in ((0, 0), (), (0,), (0, 1, 2)):
            self.assertEqual(outcome(board, "rename", (1, order)), ("Unfit",), order)
        self.assertEqual(outcome(board, "rename", (1, (1, 0))), ("value", None))
        self.assertEqual(outcome(board, "less", (0,)), ("CanNot",))
        self.assertEqual(outcome(board, "less", (2,)), ("NoPlace", 2))

    def test_what_is_taken(self):
        board = Board(2, PAIR)
        for form in (((((0, 1), (0, 0)), UNIT),), ((((1, 0),), UNIT),), ((((1,), (1,)), UNIT),), ((((1, 0), (0, 0), (0, 0)), UNIT),),
                     ((((1, 0), (0, 0)), (2, 4)),), ((((1, 0), (0, 0)), (0, 1)),), ((((1, 0), (-1, 0)), UNIT),),
                     ((((1, 0), (0, 0)), UNIT), (((0, 0), (0, 0)), UNIT)), None, 5, (((), UNIT),), ((((True, 0), (0, 0)), UNIT),)):
            self.assertEqual(outcome(board, "take", (form,)), ("Unfit",), form)
        self.assertEqual(outcome(board, "undo", ()), ("NothingDone",))
        self.assertEqual([board.take(form) for form in ((), ((((0, 0), (0, 0)), (HUGE, 7)),), ((((8, 0), (8, 8)), UNIT),))], [0, 1, 2])

    def test_tickets_are_given_out_once(self):
        board = Board(1, (((0,), 2),))
        mark = board.mark()
        self.assertEqual([board.take(()), board.take(())], [0, 1])
        board.drop(1)
        self.assertEqual(board.take(()), 2)
        board.undo()
        board.undo()
        self.assertEqual((board.tickets(), board.take(())), ((0, 1), 3))
        board.back(mark)
        self.assertEqual((board.tickets(), board.take(())), ((), 4))
        self.assertEqual(outcome(board, "take", (((((1,),), UNIT),),)), ("Unfit",))
        self.assertEqual(board.take(()), 5)

    def test_marks_and_undo(self):
        board = Board(1, (((0,), 1),))
        first = board.take(((((1,),), UNIT),))
        marks = [board.mark(), board.mark()]
        self.assertEqual(marks, [0, 1])
        board.want(((1,),), UNIT)
        self.assertEqual((board.changed(0), board.right_tickets()), (("right",), (0,)))
        board.want(((1,), (1,)), UNIT)
        self.assertEqual((board.changed(0), board.can_tell()), (("seats",), False))
        self.assertEqual(board.mark(), 2)
        board.back(0)
        self.assertEqual((board.wish(), board.changed(0), board.changed(2)), ((), (), ("seats",)))
        board.undo()
        self.assertEqual((len(board.wish()), board.changed(2)), (2, ()))
        board.undo()
        board.undo()
        self.assertEqual((board.wish(), board.tickets()), ((), (first,)))
        # To mark, and to be asked, is no deed: the next one undone is the take.
        board.undo()
        self.assertEqual((board.tickets(), outcome(board, "undo", ())), ((), ("NothingDone",)))
        self.assertEqual((board.changed(1), board.mark()), ((), 3))
        board.back(2)
        self.assertEqual((board.tickets(), len(board.wish())), ((first,), 2))
        board.undo()
        self.assertEqual(board.tickets(), ())

    def test_an_error_is_no_deed(self):
        board = Board(1, (((0,), 1),))
        board.want((), HALF)
        for name, args in (("less", (0,)), ("less", (1,)), ("take", (((((1,), (0,)), UNIT),),)), ("drop", (0,)), ("rename", (0, (0,))),
                           ("join", (0, 0, UNIT)), ("back", (0,)), ("more", (4,))):
            self.assertNotEqual(outcome(board, name, args)[0], "value")
        board.undo()
        self.assertEqual((board.wish(), outcome(board, "undo", ())), ((), ("NothingDone",)))

    def test_deeds_that_change_nothing_can_be_undone(self):
        board = Board(1, (((0,), 2),))
        board.take(((((1,), (1,)), UNIT),))
        board.want(((1,),), (0, 1))
        board.rename(0, (1, 0))
        board.join(0, 0, (0, 1))
        for _ in range(3):
            board.undo()
            self.assertEqual(board.tickets(), (0,))
        board.undo()
        self.assertEqual(board.tickets(), ())

    def test_samples_that_move(self):
        board = Board(2, (((0,), 1), ((0, 1), 1), ((1,), 1)))
        form = ((((1, 0), (1, 1), (0, 2)), HALF),)
        board.take(form)
        self.assertEqual([board.more(0), board.more(2), board.more(1)], [1, 4, 3])
        none = (0, 0)
        self.assertEqual(board.form(0), ((((1, 0), none, (1, 1), none, (0, 2), none), HALF),))
        self.assertEqual(board.kinds(), (((0,), 2), ((0, 1), 2), ((1,), 2)))
        board.rename(0, (1, 0, 2, 3, 4, 5))
        self.assertEqual(outcome(board, "less", (0,)), ("CanNot",))
        board.less(1)
        self.assertEqual(board.form(0), ((((none, (1, 0), (1, 1), (0, 2), none)), HALF),))
        board.less(2)
        self.assertEqual(outcome(board, "less", (2,)), ("CanNot",))
        board.drop(0)
        board.less(0)
        self.assertEqual(board.kinds(), (((0,), 1), ((0, 1), 1), ((1,), 1)))
        self.assertEqual(outcome(board, "less", (0,)), ("CanNot",))

    def test_join(self):
        board = Board(1, (((0,), 1),))
        board.take(((((1,),), UNIT),))
        board.take(((((1,),), HALF), (((2,),), UNIT)))
        board.join(1, 1, (2, 1))
        self.assertEqual(board.form(1), ((((1,),), (3, 2)), (((2,),), (3, 1))))
        board.join(1, 0, (-3, 2))
        self.assertEqual((board.form(0), board.form(1)), (((((1,),), UNIT),), ((((2,),), (3, 1)),)))
        board.join(1, 1, (-1, 1))
        self.assertEqual((board.form(1), board.tickets()), ((), (0, 1)))

    def test_same_and_apart(self):
        board = Board(1, (((0,), 6),))
        idle = (0,)
        first = board.take((((((1,),) + (idle,) * 5), UNIT),))
        last = board.take(((((idle,) * 5 + ((1,),)), UNIT),))
        number = board.take((((idle,) * 6, HALF),))
        full = board.take(((((1,),) * 6, UNIT),))
        self.assertEqual([board.same(first, k) for k in (first, last, number)], [True, True, False])
        self.assertEqual([board.apart(first, k) for k in (first, last, number)], [False, True, True])
        self.assertIs(board.apart(number, number), True)
        for k in (first, number, full):
            self.assertEqual(outcome(board, "apart", (full, k)), ("TooMuch",))
        self.assertIs(board.same(full, full), True)

    def test_it_copies(self):
        kinds, form, factors, order = [[[0], 1], [[0, 1], 1]], [[[[1, 0], [0, 1]], [1, 1]]], [[0, 1], [1, 0]], [0, 1]
        board = Board(2, kinds)
        board.take(form)
        board.want(factors, [1, 1])
        board.rename(0, order)
        before = held(board)
        kinds[0][1], form[0][1][0], factors[0][0], order[0] = 5, 7, 9, 1
        kinds.pop()
        form.pop()
        self.assertEqual(held(board), before)
        self.assertTrue(all(slow.only_tuples(part) for part in before))
        other = Board(2, board.kinds())
        other.more(0)
        self.assertEqual(held(board), before)


if __name__ == "__main__":
    unittest.main()
