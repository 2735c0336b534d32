import itertools
import unittest
from fractions import Fraction

import slow
from calls import check_call, outcome
from everysource.again import plain_form
from everysource.best import best_program
from everysource.errors import CanNot, Unfit
from everysource.forms import is_form
from everysource.layers import layer, layer_shares
from everysource.leftout import (
    blend_mean, error_parts, fewest_sizes, is_blend, is_right_blend, left_error, left_form, off_form, off_mean,
    right_blend,
)
from everysource.wishes import is_wish

HALF, UNIT = (1, 2), (1, 1)
HUGE = 10 ** 30 + 57
UNFIT, CANNOT = ("error", Unfit, {}), ("error", CanNot, {})
MEAN, SQUARE = ((((1,),), UNIT),), ((((1,), (1,)), UNIT),)
SPREAD = ((((1,), (1,)), (-1, 1)), (((2,),), UNIT))
NUMBER = (((), (2, 3)),)
CUBE = ((((1,), (1,), (1,)), HALF),)


def some_wishes(seed, many, factors=3):
    things, out = slow.Drawn(seed), []
    for _ in range(many):
        c = things.number(1, 2)
        out.append((things.wish(c, 3, factors), c))
    return things, out + [((), 1), (NUMBER, 1), (MEAN, 1), (SQUARE, 1), (SPREAD, 1), (CUBE, 1)]


def plain_at(wish, rows):
    return slow.wish_value(wish, slow.even_rows(rows))


def lots_of_rows(rows):
    return [rows[:k] + rows[k + 1:] for k in range(len(rows))]


class ErrorTest(unittest.TestCase):

    def test_error_parts(self):
        _, wishes = some_wishes(1, 40)
        for wish, c in wishes:
            parts = check_call(self, error_parts, wish)[1]
            self.assertEqual(len(parts), max(slow.wish_degree(wish) - 1, 0))
            self.assertTrue(all(is_wish(part, c) for part in parts))
            for n in (1, 2, 3, 4, 9, 40, 10 ** 6):
                out = wish
                for k, part in enumerate(parts):
                    out = slow.plus(out, part, Fraction(1, n ** (k + 1)))
                self.assertEqual(out, slow.plain_mean(wish, n))

    def test_edges(self):
        for wish in ((), NUMBER, MEAN, NUMBER + MEAN):
            self.assertEqual(error_parts(wish), [])
        self.assertEqual(error_parts(SQUARE + ((((2,),), (-1, 1)),)), [slow.plus((), SQUARE + ((((2,),), (-1, 1)),), -1)])
        # A part within the list may be ().
        flat = ((((1,), (1,)), (-3, 1)), (((1,), (1,), (1,)), UNIT))
        self.assertEqual(error_parts(flat), [
            ((((1,), (1,)), (3, 1)), (((1,), (1,), (1,)), (-3, 1)), (((1,), (2,)), (3, 1)), (((2,),), (-3, 1))),
            ((((1,), (1,), (1,)), (2, 1)), (((1,), (2,)), (-3, 1)), (((3,),), UNIT))])
        got = error_parts(CUBE)
        got.pop()
        self.assertEqual(len(error_parts(CUBE)), 2)

    def test_left_out(self):
        things, wishes = some_wishes(2, 20)
        for wish, c in wishes:
            for n in (2, 3, 4):
                form = left_form(wish, n, c)
                self.assertTrue(is_form(form, n, c))
                rows = tuple(things.row(c) for _ in range(n))
                part = sum((plain_at(wish, lot) for lot in lots_of_rows(rows)), Fraction(0)) / n
                self.assertEqual(slow.value(form, rows), n * plain_at(wish, rows) - (n - 1) * part)
                self.assertEqual(slow.plus(slow.wish_of(form), wish, -1), left_error(wish, n))
            check_call(self, left_form, wish, 2, c)
            for n in (2, 5, 40, 10 ** 6):
                error = left_error(wish, n)
                self.assertTrue(is_wish(error, c))
                want = slow.scaled(slow.plain_mean(wish, n), Fraction(n))
                want = slow.plus(slow.plus(want, slow.plain_mean(wish, n - 1), 1 - n), wish, -1)
                self.assertEqual(error, want)
                by_parts = ()
                for k, part in enumerate(error_parts(wish)):
                    by_parts = slow.plus(by_parts, part, Fraction(1, n ** k) - Fraction(1, (n - 1) ** k))
                self.assertEqual(error, by_parts)
            check_call(self, left_error, wish, 3)
            self.assertEqual(check_call(self, left_form, wish, 1, c), UNFIT)
            self.assertEqual(check_call(self, left_error, wish, 1), UNFIT)
        self.assertEqual((left_form((), 2, 1), left_error((), 2), left_error(NUMBER, 9)), ((), (), ()))
        self.assertEqual(left_form(NUMBER, 2, 2), ((((0, 0), (0, 0)), (2, 3)),))


class BlendTest(unittest.TestCase):

    def test_is_blend(self):
        for thing in ((), ((1, UNIT),), ((1, HALF), (2, (-3, 2))), ((3, UNIT), (10 ** 40, (1, HUGE))),
                      tuple((k, (HUGE ** 2, 1)) for k in range(1, 200))):
            self.assertIs(is_blend(thing), True)
            check_call(self, is_blend, thing)
        for thing in (((0, UNIT),), ((1, (0, 1)),), ((-1, UNIT),), ((1, (2, 4)),), ((2, UNIT), (1, UNIT)),
                      ((1, UNIT), (1, HALF)), ((1, UNIT, 1),), ((1,),), ((1, (1, 0)),), ((True, UNIT),), [(1, UNIT)],
                      ([1, UNIT],), ((1, [1, 1]),), (1, UNIT)):
            self.assertIs(is_blend(thing), False, thing)
        for thing in slow.spoiled(((1, HALF), (3, (-3, 2)))):
            self.assertIs(is_blend(thing), False, thing)
        for thing in slow.STRANGE:
            self.assertIs(is_blend(thing), False, thing)

    def test_means(self):
        things, wishes = some_wishes(3, 30)
        rights = 0
        for wish, c in wishes:
            sizes = sorted({things.number(1, 6) for _ in range(things.number(0, 3))})
            blend = tuple((size, things.fraction_not_0()) for size in sizes)
            for own in (blend, self.maybe_right(wish, sizes)):
                want = ()
                for size, share in own:
                    want = slow.plus(want, slow.plain_mean(wish, size), slow.exact(share))
                self.assertEqual(blend_mean(wish, own), want)
                self.assertTrue(is_wish(want, c))
                self.assertIs(is_right_blend(wish, own), want == wish)
                rights += want == wish
                check_call(self, blend_mean, wish, own)
                check_call(self, is_right_blend, wish, own)
        self.assertGreater(rights, 10)
        self.assertEqual((blend_mean(SQUARE, ()), is_right_blend((), ()), is_right_blend(MEAN, ())), ((), True, False))
        self.assertIs(is_right_blend((), ((3, HALF),)), True)
        self.assertIs(is_right_blend(MEAN, ((1, HALF), (40, HALF))), True)

    def maybe_right(self, wish, sizes):
        shares = self.shares(wish, sizes)
        return tuple((size, slow.pair(x)) for size, x in zip(sizes, shares or ()) if x != 0)

    def shares(self, wish, sizes):
        if not sizes:
            return [] if wish == () else None
        return slow.solution(*slow.wish_table([slow.plain_mean(wish, size) for size in sizes], wish))

    def test_right_and_fewest(self):
        things, wishes = some_wishes(4, 40)
        there, fewer = 0, 0
        for wish, _ in wishes:
            for _ in range(4):
                sizes = tuple(sorted({things.number(1, 7) for _ in range(things.number(0, 4))}))
                got = check_call(self, right_blend, wish, sizes)
                if self.shares(wish, sizes) is None:
                    self.assertEqual(got, CANNOT)
                else:
                    there += 1
                    self.assertTrue(is_blend(got[1]))
                    self.assertTrue(all(size in sizes for size, _ in got[1]))
                    self.assertIs(is_right_blend(wish, got[1]), True)
                best = [lot for many in range(len(sizes) + 1) for lot in itertools.combinations(sizes, many)
                        if self.shares(wish, lot) is not None]
                fewest = min(best, key=lambda lot: (len(lot), lot), default=None)
                fewer += fewest is not None and len(fewest) < len(sizes)
                self.assertEqual(check_call(self, fewest_sizes, wish, sizes), ("value", fewest))
        self.assertGreater(there, 40)
        self.assertGreater(fewer, 20)

    def test_any_sizes_do(self):
        _, wishes = some_wishes(5, 15)
        for wish, _ in wishes:
            degree = slow.wish_degree(wish)
            if degree >= 1:
                for sizes in itertools.combinations((1, 2, 5, 17, 40), degree):
                    self.assertIs(is_right_blend(wish, right_blend(wish, sizes)), True)

    def test_edges(self):
        self.assertEqual((right_blend((), ()), fewest_sizes((), ()), fewest_sizes((), (1, 2))), ((), (), ()))
        self.assertEqual((check_call(self, right_blend, NUMBER, ()), fewest_sizes(NUMBER, ())), (CANNOT, None))
        self.assertEqual((right_blend(NUMBER, (7,)), fewest_sizes(NUMBER, (4, 7))), (((7, UNIT),), (4,)))
        self.assertEqual((right_blend(MEAN, (1,)), fewest_sizes(MEAN, (3, 4))), (((1, UNIT),), (3,)))
        self.assertEqual(check_call(self, right_blend, SPREAD, (1,)), CANNOT)
        # With one sample the plain spread tells 0: of these sizes it takes no part in what is right.
        self.assertEqual(fewest_sizes(SPREAD, (1, 2, 3)), (2,))
        great = slow.plus(slow.scaled(CUBE, Fraction(HUGE, 7)), SPREAD, Fraction(1, HUGE))
        self.assertIs(is_right_blend(great, right_blend(great, (31, 39, 40))), True)


class OffTest(unittest.TestCase):

    def test_off(self):
        things, wishes = some_wishes(6, 16)
        for wish, c in wishes:
            degree = slow.wish_degree(wish)
            for n in (1, 2, 3, 4):
                if n < 2 or n - 1 < degree:
                    self.assertEqual(check_call(self, off_form, wish, n, c), CANNOT)
                    self.assertEqual(check_call(self, off_mean, wish, n), CANNOT)
                    continue
                form, rows = off_form(wish, n, c), tuple(things.row(c) for _ in range(n))
                self.assertTrue(is_form(form, n, c))
                best = best_program(wish, n - 1, c)
                told = [slow.value(best, lot) for lot in lots_of_rows(rows)]
                middle = sum(told, Fraction(0)) / n
                self.assertEqual(slow.value(form, rows), sum(((x - middle) ** 2 for x in told), Fraction(0)))
                self.assertEqual(slow.wish_of(form), off_mean(wish, n))
            check_call(self, off_form, wish, degree + 1, c)
            check_call(self, off_mean, wish, degree + 1)

    def test_off_by_layers(self):
        _, wishes = some_wishes(7, 12)
        for wish, c in wishes:
            degree = slow.wish_degree(wish)
            for n in (degree + 1, degree + 2, 40, 10 ** 6):
                if n < 2:
                    continue
                out = ()
                for k, share in enumerate(layer_shares(wish, n - 1)):
                    out = slow.plus(out, layer(wish, k + 1), (k + 1) * slow.exact(share))
                self.assertEqual(off_mean(wish, n), out)
                self.assertTrue(is_wish(out, c))

    def test_edges(self):
        self.assertEqual((off_form((), 2, 1), off_mean((), 2), off_mean(NUMBER, 2), off_form(NUMBER, 2, 1)), ((), (), (), ()))
        for wish in ((), NUMBER, MEAN):
            self.assertEqual(outcome(off_form, (wish, 1, 1), {}), CANNOT)
            self.assertEqual(outcome(off_mean, (wish, 1), {}), CANNOT)
        self.assertEqual(outcome(off_mean, (SQUARE, 2), {}), CANNOT)
        self.assertNotEqual(off_mean(SQUARE, 3), ())

    def test_plain_of_a_lot(self):
        # The plain program of a lot is the plain program of so many samples, whichever they are.
        things = slow.Drawn(8)
        rows = tuple(things.row(1) for _ in range(4))
        for lot in lots_of_rows(rows):
            self.assertEqual(slow.value(plain_form(CUBE, 3, 1), lot), plain_at(CUBE, lot))


if __name__ == "__main__":
    unittest.main()
