import itertools
import unittest
from fractions import Fraction

import slow
from calls import check_call, outcome
from everysource.again import (
    are_right_runs, drawn, fewest_runs, is_runs, plain_form, right_runs, root_of, root_parts, run_form, runs_form,
    runs_mean, wrong_root,
)
from everysource.errors import CanNot, Unfit
from everysource.forms import is_form
from everysource.wishes import is_wish

ZERO, HALF, UNIT = (0, 1), (1, 2), (1, 1)
HUGE = 10 ** 30 + 57
UNFIT, CANNOT = ("error", Unfit, {}), ("error", CanNot, {})
MEAN, SQUARE = ((((1,),), UNIT),), ((((1,), (1,)), UNIT),)
SPREAD = ((((1,), (1,)), (-1, 1)), (((2,),), UNIT))
NUMBER = (((), (2, 3)),)


def some_wishes(seed, many, factors=3):
    drawn_things, out = slow.Drawn(seed), []
    for _ in range(many):
        c = drawn_things.number(1, 2)
        out.append((drawn_things.wish(c, 3, factors), c))
    return drawn_things, out + [((), 1), (NUMBER, 1), (MEAN, 1), (SQUARE, 1), (SPREAD, 1), (SPREAD + ((((3,),), HALF),), 1)]


def drawn_runs(things, many=3, high=4):
    times = sorted({things.number(0, high) for _ in range(things.number(0, many))})
    return tuple((t, things.fraction_not_0()) for t in times)


def mean_again(wish, source, n, many):
    """The mean of what the plain program tells of the last ROWS, drawing by drawing."""
    if many == 0:
        return slow.wish_value(wish, source)
    return sum((chance * mean_again(wish, slow.even_rows(rows), n, many - 1)
                for rows, chance in slow.drawings(source, n)), Fraction(0))


def slow_drawn(wish, n, many):
    for _ in range(many):
        wish = slow.plain_mean(wish, n)
    return wish


class DrawnTest(unittest.TestCase):

    def test_roots(self):
        for n in list(range(1, 9)) + [40]:
            for k in range(12):
                self.assertEqual(root_of(n, k), slow.pair(Fraction(slow.falling(n, k), n ** k)))
        self.assertEqual([root_of(5, 0), root_of(1, 0), root_of(1, 1), root_of(1, 2), root_of(4, 5)],
                         [UNIT, UNIT, UNIT, ZERO, ZERO])
        check_call(self, root_of, 7, 3)

    def test_drawn_by_partings(self):
        _, wishes = some_wishes(1, 30, 4)
        for wish, c in wishes:
            for n in (1, 2, 3, 7, 40):
                for many in (0, 1, 2, 6):
                    got = drawn(wish, n, many)
                    self.assertEqual(got, slow_drawn(wish, n, many))
                    self.assertTrue(is_wish(got, c))
            check_call(self, drawn, wish, 3, 2)

    def test_drawn_by_drawings(self):
        things, wishes = some_wishes(2, 8)
        for wish, c in wishes:
            source = things.source(c, 2)
            for n, many in ((1, 1), (1, 3), (2, 1), (2, 2), (2, 3), (3, 1), (3, 2)):
                self.assertEqual(slow.wish_value(drawn(wish, n, many), source), mean_again(wish, source, n, many))

    def test_forms(self):
        things, wishes = some_wishes(3, 14)
        for wish, c in wishes:
            for n in (1, 2, 3):
                rows = tuple(things.row(c) for _ in range(n))
                form = plain_form(wish, n, c)
                self.assertTrue(is_form(form, n, c))
                self.assertEqual(slow.value(form, rows), slow.wish_value(wish, slow.even_rows(rows)))
                for t in (0, 1, 2):
                    again = run_form(wish, n, c, t)
                    self.assertTrue(is_form(again, n, c))
                    self.assertEqual(slow.value(again, rows), mean_again(wish, slow.even_rows(rows), n, t))
                    self.assertEqual(slow.wish_of(again), slow_drawn(wish, n, t + 1))
                self.assertEqual(run_form(wish, n, c, 0), form)
            check_call(self, plain_form, wish, 2, c)
            check_call(self, run_form, wish, 2, c, 3)
        great = ((((2,), (8,), (8,)), (HUGE, 7)),)
        rows = (((HUGE, 3),), ((-1, HUGE),))
        self.assertEqual(slow.value(plain_form(great, 2, 1), rows), slow.wish_value(great, slow.even_rows(rows)))
        wide = ((((0, 0, 1), (0, 1, 0), (1, 0, 0), (2, 2, 2)), UNIT),)
        self.assertEqual(len(plain_form(wide, 5, 3)), 5 ** 4)


class PartsTest(unittest.TestCase):

    def test_parts(self):
        _, wishes = some_wishes(4, 40, 4)
        for wish, c in wishes:
            degree = slow.wish_degree(wish)
            for n in (1, 2, 3, 4, 5, 40):
                if n < degree:
                    self.assertEqual(outcome(root_parts, (wish, n), {}), UNFIT)
                    continue
                parts = root_parts(wish, n)
                allowed = [Fraction(slow.falling(n, k), n ** k) for k in range(max(degree, 1), 0, -1)]
                roots = [slow.exact(root) for root, _ in parts]
                self.assertEqual(roots, [root for root in allowed if root in roots])
                self.assertEqual(slow.from_sums(slow.added([
                    (key, slow.exact(x)) for _, part in parts for key, x in part])), wish)
                for root, part in parts:
                    self.assertNotEqual(part, ())
                    self.assertTrue(is_wish(part, c))
                    self.assertEqual(slow.plain_mean(part, n), slow.scaled(part, slow.exact(root)))
            check_call(self, root_parts, wish, 4)

    def test_edges(self):
        self.assertEqual((root_parts((), 1), root_parts((), 9)), ([], []))
        self.assertEqual((root_parts(NUMBER, 1), root_parts(NUMBER, 9)), ([(UNIT, NUMBER)], [(UNIT, NUMBER)]))
        self.assertEqual(root_parts(MEAN, 1), [(UNIT, MEAN)])
        both = NUMBER + MEAN
        self.assertEqual(root_parts(both, 5), [(UNIT, both)])
        self.assertEqual(root_parts(SPREAD, 2), [(HALF, SPREAD)])
        check_call(self, root_parts, SQUARE, 1)
        first = root_parts(SQUARE, 2)
        first.pop()
        self.assertEqual(len(root_parts(SQUARE, 2)), 2)


class RunsTest(unittest.TestCase):

    def test_is_runs(self):
        for thing in ((), ((0, UNIT),), ((0, HALF), (1, (-3, 2))), ((3, UNIT), (10 ** 40, (1, HUGE))),
                      tuple((k, (HUGE ** 2, 1)) for k in range(200))):
            self.assertIs(is_runs(thing), True)
            check_call(self, is_runs, thing)
        for thing in (((0, ZERO),), ((-1, UNIT),), ((0, (2, 4)),), ((1, UNIT), (0, UNIT)), ((0, UNIT), (0, HALF)),
                      ((0, UNIT, 1),), ((0,),), ((0, (1, 0)),), ((0, (1, -1)),), ((True, UNIT),), [(0, UNIT)], ([0, UNIT],),
                      ((0, [1, 1]),), (0, UNIT), ((0, (True, 1)),)):
            self.assertIs(is_runs(thing), False, thing)
        for thing in slow.spoiled(((0, HALF), (2, (-3, 2)))):
            self.assertIs(is_runs(thing), False, thing)
        for thing in slow.STRANGE:
            self.assertIs(is_runs(thing), False, thing)

    def test_means_and_forms(self):
        things, wishes = some_wishes(5, 20)
        for wish, c in wishes:
            for n in (1, 2, 3, 12):
                runs = drawn_runs(things)
                want = {}
                for t, share in runs:
                    for key, x in slow_drawn(wish, n, t + 1):
                        want[key] = want.get(key, 0) + slow.exact(x) * slow.exact(share)
                self.assertEqual(runs_mean(wish, n, runs), slow.from_sums(want))
                self.assertIs(are_right_runs(wish, n, runs), slow.from_sums(want) == wish)
                check_call(self, runs_mean, wish, n, runs)
                check_call(self, are_right_runs, wish, n, runs)
                if n > 3:
                    continue
                form, rows = runs_form(wish, n, c, runs), tuple(things.row(c) for _ in range(n))
                self.assertTrue(is_form(form, n, c))
                self.assertEqual(slow.value(form, rows), sum(
                    (slow.exact(share) * slow.value(run_form(wish, n, c, t), rows) for t, share in runs), Fraction(0)))
                self.assertEqual(slow.wish_of(form), runs_mean(wish, n, runs))
                check_call(self, runs_form, wish, n, c, runs)
        self.assertEqual((runs_mean(SQUARE, 3, ()), runs_form(SQUARE, 3, 1, ())), ((), ()))
        self.assertIs(are_right_runs((), 3, ()), True)
        self.assertIs(are_right_runs((), 1, ((4, HALF),)), True)
        self.assertIs(are_right_runs(SQUARE, 3, ()), False)
        self.assertIs(are_right_runs(MEAN, 3, ((0, HALF), (6, HALF))), True)
        self.assertIs(are_right_runs(NUMBER, 3, ((2, UNIT),)), True)

    def test_right_by_roots(self):
        things, wishes = some_wishes(6, 30)
        rights = 0
        for wish, _ in wishes:
            degree = slow.wish_degree(wish)
            for n in range(max(degree, 1), 6):
                roots = [slow.exact(root) for root, _ in root_parts(wish, n)]
                for runs in (drawn_runs(things, 4), self.solved(things, roots)):
                    sums = [sum((slow.exact(x) * root ** (t + 1) for t, x in runs), Fraction(0)) for root in roots]
                    right = all(worth == 1 for worth in sums)
                    rights += right
                    self.assertIs(are_right_runs(wish, n, runs), right)
                    wrong = [slow.pair(root) for root, worth in zip(roots, sums) if worth != 1]
                    self.assertEqual(wrong_root(wish, n, runs), wrong[0] if wrong else None)
                    check_call(self, wrong_root, wish, n, runs)
        self.assertGreater(rights, 30)

    def solved(self, things, roots):
        """RUNS that are right at some of the roots, often at all."""
        times = sorted({things.number(0, 6) for _ in range(6)})[:len(roots) + things.number(-1, 1)]
        shares = slow.solution([[root ** (t + 1) for t in times] for root in roots[:len(times)]],
                               [1] * min(len(roots), len(times)))
        return tuple((t, slow.pair(x)) for t, x in zip(times, shares or ()) if x != 0)

    def test_too_few_samples(self):
        for wish in (SQUARE, SPREAD, ((((1,), (1,), (1,)), HALF),)):
            for n in range(1, slow.wish_degree(wish)):
                self.assertIsNone(fewest_runs(wish, n))
                self.assertEqual(check_call(self, right_runs, wish, n, (0, 1, 2, 3, 4, 5)), CANNOT)
                self.assertEqual(check_call(self, wrong_root, wish, n, ((0, UNIT),)), UNFIT)
                for runs in ((), ((0, (2, 1)),), ((0, HALF), (1, HALF))):
                    self.assertIs(are_right_runs(wish, n, runs), False)

    def test_fewest_and_right(self):
        _, wishes = some_wishes(7, 25)
        for wish, _ in wishes:
            for n in (1, 2, 3, 5):
                fewest = None
                for many in range(4):
                    for times in itertools.combinations((0, 1, 3, 4), many):
                        there = self.is_there(wish, n, times)
                        if there and fewest is None:
                            fewest = many
                        got = check_call(self, right_runs, wish, n, times)
                        if not there:
                            self.assertEqual(got, CANNOT)
                            continue
                        self.assertTrue(is_runs(got[1]))
                        self.assertTrue(all(t in times for t, _ in got[1]))
                        self.assertIs(are_right_runs(wish, n, got[1]), True)
                self.assertEqual(fewest_runs(wish, n), fewest)
                check_call(self, fewest_runs, wish, n)

    def is_there(self, wish, n, times):
        """Whether some RUNS with t in times are right, by what each run tells on the mean."""
        table, right = slow.wish_table([slow_drawn(wish, n, t + 1) for t in times], wish)
        if not times:
            return wish == ()
        return slow.solution(table, right) is not None

    def test_edges(self):
        self.assertEqual((right_runs((), 1, ()), right_runs((), 5, (0, 3)), fewest_runs((), 1)), ((), (), 0))
        self.assertEqual(check_call(self, right_runs, MEAN, 1, ()), CANNOT)
        self.assertEqual((right_runs(MEAN, 1, (5,)), right_runs(NUMBER, 2, (6,))), (((5, UNIT),), ((6, UNIT),)))
        self.assertEqual((fewest_runs(NUMBER, 1), fewest_runs(MEAN, 1), fewest_runs(SQUARE, 40)), (1, 1, 2))
        self.assertEqual((wrong_root((), 1, ((3, HALF),)), wrong_root((), 1, ())), (None, None))
        self.assertEqual((wrong_root(NUMBER, 4, ()), wrong_root(NUMBER, 4, ((2, UNIT),))), (UNIT, None))
        self.assertEqual(wrong_root(SQUARE, 2, ((0, (2, 1)),)), UNIT)
        self.assertEqual(wrong_root(SQUARE, 2, right_runs(SQUARE, 2, (2, 6))), None)
        four = ((((1,), (1,), (1,), (1,)), (HUGE, 7)), (((8,),), (1, HUGE)))
        runs = right_runs(four, 40, (0, 2, 3, 6))
        self.assertEqual([t for t, _ in runs], [0, 2, 3, 6])
        self.assertEqual(slow.from_sums(slow.added([
            (key, slow.exact(x) * slow.exact(share)) for t, share in runs for key, x in slow_drawn(four, 40, t + 1)])), four)


if __name__ == "__main__":
    unittest.main()
