import itertools
import unittest
from fractions import Fraction

import slow
from calls import check_call, outcome
from everysource.best import best_program
from everysource.errors import CanNot
from everysource.forms import is_form
from everysource.sums import (
    form_of, from_unlike, in_unlike, is_total, plus_totals, right_value, scaled_total, times_totals, total_at,
    unlike_at,
)

ZERO, HALF, UNIT = (0, 1), (1, 2), (1, 1)
HUGE = 10 ** 30 + 57


def drawn_total(drawn, c, pairs=3, factors=3, high=2):
    return slow.from_sums(slow.added([
        (tuple(sorted(tuple(drawn.number(0, high) for _ in range(c)) for _ in range(drawn.number(0, factors)))),
         slow.exact(drawn.fraction_not_0())) for _ in range(drawn.number(0, pairs))]))


def drawn_rows(drawn, c, most=4):
    return tuple(drawn.row(c) for _ in range(drawn.number(0, most)))


def slow_at(total, rows, unlike=False):
    """The value over all ways to give each factor a row; the unlike value over those that give none twice."""
    out = Fraction(0)
    for factors, x in total:
        for places in itertools.product(range(len(rows)), repeat=len(factors)):
            if not unlike or len(set(places)) == len(places):
                term = slow.exact(x)
                for place, own in zip(places, factors):
                    term *= slow.monomial(rows[place], own)
                out += term
    return out


class ThingTest(unittest.TestCase):

    def test_is_total(self):
        drawn = slow.Drawn(1)
        for _ in range(40):
            c = drawn.number(1, 3)
            total = drawn_total(drawn, c)
            self.assertIs(is_total(total, c), True)
            self.assertIs(is_total(total, c + 1), all(factors == () for factors, _ in total))
            self.assertIs(is_total(drawn.wish(c), c), True)
            check_call(self, is_total, total, c)
        good = ((((0, 0), (0, 0), (2, 0)), HALF), (((1, 0),), (-3, 1)))
        self.assertIs(is_total(good, 2), True)
        for thing in slow.spoiled(good):
            self.assertIs(is_total(thing, 2), False, thing)
        for thing in slow.STRANGE:
            right = isinstance(thing, tuple) and thing in ((), (((), (1, 1)),))
            self.assertIs(is_total(thing, 2), right, thing)

    def test_order(self):
        none, one, two = (0,), (1,), (2,)
        for total, right in (
                ((((none,), UNIT),), True), ((((none, one), UNIT),), True), ((((one, none), UNIT),), False),
                ((((one, one), UNIT),), True), ((((one,), UNIT), ((none,), UNIT)), False),
                ((((none,), UNIT), ((one,), UNIT), ((one, one), UNIT)), True), ((((one,), UNIT), ((one,), HALF)), False),
                ((((one,), ZERO),), False), ((((one,), (2, 2)),), False), (((((-1,),), UNIT),), False),
                (((((1, 1),), UNIT),), False), (((((),), UNIT),), False), ((((two,), (1, -1)),), False),
                ((((), UNIT), ((), HALF)), False), ((((one,), UNIT, UNIT),), False), (((one, UNIT),), False)):
            self.assertIs(is_total(total, 1), right, total)
        many = tuple((((k,),) * 9, (1, k)) for k in range(1, 400))
        self.assertIs(is_total(many, 1), True)
        self.assertIs(is_total(many[::-1], 1), False)
        self.assertIs(is_total((((), (HUGE ** 9, HUGE)),), 1), False)
        self.assertIs(is_total((((), (HUGE ** 9 + 1, HUGE)),), 10 ** 40), True)


class ValueTest(unittest.TestCase):

    def test_values(self):
        drawn = slow.Drawn(2)
        for _ in range(60):
            c = drawn.number(1, 2)
            total, rows = drawn_total(drawn, c), drawn_rows(drawn, c)
            self.assertEqual(total_at(total, rows), slow.pair(slow_at(total, rows)))
            self.assertEqual(unlike_at(total, rows), slow.pair(slow_at(total, rows, True)))
            check_call(self, total_at, total, rows)
            check_call(self, unlike_at, total, rows)
        count = ((((0, 0),), UNIT),)
        self.assertEqual([total_at(count, rows) for rows in ((), ((ZERO, ZERO),) * 20)], [ZERO, (20, 1)])
        self.assertEqual((total_at((), ()), total_at((((), HALF),), ()), unlike_at((((), HALF),), ())), (ZERO, HALF, HALF))
        four = ((((0,),) * 4, UNIT),)
        self.assertEqual([unlike_at(four, ((HALF,),) * k) for k in (3, 4, 6)], [ZERO, (24, 1), (360, 1)])
        great = (((HUGE, 7),), ((-HUGE, 3),))
        total = ((((4,), (4,)), (HUGE, 2)),)
        self.assertEqual(total_at(total, great), slow.pair(slow_at(total, great)))
        self.assertEqual(unlike_at(total, great), slow.pair(slow_at(total, great, True)))

    def test_sums_and_products(self):
        drawn = slow.Drawn(3)
        for _ in range(50):
            c = drawn.number(1, 2)
            total, other, x = drawn_total(drawn, c), drawn_total(drawn, c), drawn.fraction()
            rows = drawn_rows(drawn, c, 3)
            one, two = slow_at(total, rows), slow_at(other, rows)
            for made, worth in (
                    (plus_totals(total, other), one + two), (times_totals(total, other), one * two),
                    (scaled_total(total, x), slow.exact(x) * one)):
                self.assertTrue(is_total(made, c))
                self.assertEqual(slow_at(made, rows), worth)
            for call in (plus_totals, times_totals):
                check_call(self, call, total, other)
            check_call(self, scaled_total, total, x)
            self.assertEqual(plus_totals(total, scaled_total(total, (-1, 1))), ())
            self.assertEqual(times_totals(total, (((), UNIT),)), total)
        self.assertEqual((times_totals((), (((), HALF),)), scaled_total((((), HALF),), ZERO), plus_totals((), ())), ((),) * 3)

    def test_there_and_back(self):
        drawn = slow.Drawn(4)
        for _ in range(50):
            c = drawn.number(1, 2)
            total = drawn_total(drawn, c, 3, 4)
            unlike, back = in_unlike(total), from_unlike(total)
            self.assertTrue(is_total(unlike, c) and is_total(back, c))
            for rows in (drawn_rows(drawn, c), drawn_rows(drawn, c)):
                self.assertEqual(slow_at(unlike, rows, True), slow_at(total, rows))
                self.assertEqual(slow_at(back, rows), slow_at(total, rows, True))
            self.assertEqual((from_unlike(unlike), in_unlike(back)), (total, total))
            check_call(self, in_unlike, total)
            check_call(self, from_unlike, total)
        for idle in ((), (((), HALF),)):
            self.assertEqual((in_unlike(idle), from_unlike(idle)), (idle, idle))
        alike = ((((0,), (0,), (0,)), UNIT),)
        self.assertEqual(from_unlike(alike), ((((0,),), (2, 1)), (((0,), (0,)), (-3, 1)), (((0,), (0,), (0,)), UNIT)))


class FormTest(unittest.TestCase):

    def test_form_of(self):
        drawn = slow.Drawn(5)
        for _ in range(40):
            c, n = drawn.number(1, 2), drawn.number(0, 4)
            total = drawn_total(drawn, c)
            form = form_of(total, n, c)
            self.assertTrue(is_form(form, n, c))
            for _ in range(3):
                rows = tuple(drawn.row(c) for _ in range(n))
                self.assertEqual(slow.value(form, rows), slow_at(total, rows))
            check_call(self, form_of, total, n, c)
        self.assertEqual(form_of(((((0,), (1,)), HALF),), 2, 1), ((((0,), (1,)), UNIT), (((1,), (0,)), UNIT)))
        self.assertEqual(form_of((((), HALF), (((0,),), UNIT)), 0, 1), (((), HALF),))
        self.assertEqual((form_of((), 3, 2), form_of(((((0,), (0,)), UNIT),), 4, 1)), ((), ((((0,),) * 4, (16, 1)),)))

    def test_mean_of_unlike_values(self):
        drawn = slow.Drawn(6)
        for _ in range(30):
            c, n = drawn.number(1, 2), drawn.number(0, 3)
            total, source = drawn_total(drawn, c), drawn.source(c, 2)
            right = Fraction(0)
            for factors, x in total:
                term = slow.exact(x)
                for k, own in enumerate(factors):
                    term *= (n - k) * sum(slow.exact(chance) * slow.monomial(row, own) for row, chance in source)
                right += term
            mean = sum((x * slow.exact(unlike_at(total, rows)) for rows, x in slow.drawings(source, n)), Fraction(0))
            self.assertEqual(mean, right)


class RightTest(unittest.TestCase):

    def test_right_value(self):
        drawn = slow.Drawn(7)
        for _ in range(50):
            c = drawn.number(1, 2)
            wish, rows = drawn.wish(c, 3, 3), drawn_rows(drawn, c)
            got = check_call(self, right_value, wish, rows)
            if len(rows) < slow.wish_degree(wish):
                self.assertEqual(got, ("error", CanNot, {}))
                continue
            form = best_program(wish, len(rows), c)
            self.assertEqual(got, ("value", slow.pair(slow.value(form, rows))))

    def test_edges(self):
        mean = ((((1,),), UNIT),)
        rows = (((1, 2),), ((1, 3),))
        self.assertEqual((right_value((), ()), right_value((((), HALF),), ())), (ZERO, HALF))
        self.assertEqual((right_value((), rows), right_value(mean, rows), right_value(mean, rows[:1])), (ZERO, (5, 12), HALF))
        self.assertEqual(outcome(right_value, (mean, ()), {}), ("error", CanNot, {}))
        gone = (((), (-1, 1)), (((1,), (1,)), UNIT))
        self.assertEqual(outcome(right_value, (gone, rows[:1]), {}), ("error", CanNot, {}))
        five = ((((8,),) * 5, (HUGE, 2)),)
        great = tuple(((HUGE - k, 1 + k % 2),) for k in range(0, 12, 2))
        self.assertEqual(right_value(five, great), slow.pair(slow_at(five, great, True) / 720))
        self.assertEqual(right_value(five, great[:5]), slow.pair(slow_at(five, great[:5], True) / 120))


if __name__ == "__main__":
    unittest.main()
