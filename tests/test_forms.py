import itertools
import unittest
from fractions import Fraction

import slow
from calls import check_call, outcome
from everysource.errors import NoPlace, Unfit
from everysource.forms import (
    columns_of, evened, fits, form_at, form_degree, is_even, is_form, is_kinds, kind_samples, number_form, plus_forms,
    pressed_form, renamed_form, sample_form, samples_of, scaled_form, times_forms, wider_form,
)

HUGE = 10 ** 30 + 57


def drawn_forms(seed, many):
    """Triples (FORM, n, c) for all small sizes, n = 0 among them."""
    drawn = slow.Drawn(seed)
    return [(drawn.form(n, c, 4), n, c) for _ in range(many) for n in range(5) for c in range(1, 4)]


class IsFormTest(unittest.TestCase):

    def test_right_things(self):
        for form, n, c in drawn_forms(1, 8):
            self.assertIs(is_form(form, n, c), True)
            self.assertIs(is_form(form, n + 1, c), form == ())
            self.assertIs(is_form(form, n, c + 1), form == () or n == 0)

    def test_beyond_the_bounds(self):
        self.assertTrue(is_form((), 10 ** 40, 10 ** 40))
        self.assertTrue(is_form((((), (5, 3)),), 0, 1))
        self.assertTrue(is_form((((), (5, 3)),), 0, 10 ** 40))
        self.assertTrue(is_form(((((0,) * 50,) * 60, (1, 1)),), 60, 50))
        self.assertTrue(is_form(((((10 ** 50,),), (10 ** 60, 10 ** 60 + 1)),), 1, 1))
        self.assertTrue(is_form(tuple((((k,), (0,)), (1, k + 1)) for k in range(2000)), 2, 1))
        self.assertFalse(is_form(tuple((((k,), (0,)), (1, k + 1)) for k in (0, 1, 3, 2)), 2, 1))

    def test_one_wrong_place(self):
        for form, n, c in (
                (((((0, 1), (2, 0)), (-1, 3)), (((1, 0), (0, 0)), (5, 1))), 2, 2),
                (((((0,),), (1, 2)), (((4,),), (3, 1))), 1, 1),
                ((((), (1, 2)),), 0, 3)):
            self.assertTrue(is_form(form, n, c))
            for thing in slow.spoiled(form):
                self.assertIs(is_form(thing, n, c), thing == (), thing)

    def test_fractions(self):
        for x in ((1, 1), (-1, 1), (-7, 3), (HUGE, 1), (1, HUGE)):
            self.assertTrue(is_form(((((1,),), x),), 1, 1))
        for x in ((0, 1), (0, 0), (0, 2), (2, 2), (-2, 4), (1, 0), (1, -1), (-1, -1), (1, -2), (3, 9), (1,), (1, 1, 1)):
            self.assertFalse(is_form(((((1,),), x),), 1, 1), x)

    def test_powers_and_order(self):
        one = (1, 1)
        self.assertFalse(is_form(((((-1,),), one),), 1, 1))
        self.assertFalse(is_form(((((1,),), one), (((0,),), one)), 1, 1))
        self.assertFalse(is_form(((((1,),), one), (((1,),), one)), 1, 1))
        self.assertFalse(is_form(((((1,),), one), (((1,),), (2, 1))), 1, 1))
        self.assertTrue(is_form(((((1,), (2,)), one), (((2,), (1,)), one)), 2, 1))
        self.assertFalse(is_form(((((1,), (2,)), one), (((0,), (3,)), one)), 2, 1))
        self.assertFalse(is_form(((((), ()), one),), 2, 1))
        self.assertFalse(is_form((((), one),), 1, 1))
        self.assertFalse(is_form((((), one), ((), one)), 0, 1))

    def test_strange_things(self):
        for thing in slow.STRANGE:
            for n, c in ((0, 1), (1, 1), (2, 3)):
                self.assertIs(is_form(thing, n, c), thing == () and isinstance(thing, tuple))
            self.assertIs(is_kinds(thing, 1), False)


class MakingTest(unittest.TestCase):

    def test_sample_form(self):
        for n, c in itertools.product(range(4), range(1, 4)):
            for sample, column in itertools.product(range(-2, n + 2), range(-2, c + 2)):
                got = outcome(sample_form, (n, c, sample, column), {})
                if not 0 <= sample < n:
                    self.assertEqual(got, ("error", NoPlace, {"place": sample}))
                elif not 0 <= column < c:
                    self.assertEqual(got, ("error", NoPlace, {"place": column}))
                else:
                    powers = tuple(tuple(int((i, k) == (sample, column)) for k in range(c)) for i in range(n))
                    self.assertEqual(got, ("value", ((powers, (1, 1)),)))
        with self.assertRaises(NoPlace) as caught:
            sample_form(2, 2, 5, 7)
        self.assertEqual(caught.exception.place, 5)

    def test_number_form(self):
        self.assertEqual(number_form(0, 1, (2, 3)), (((), (2, 3)),))
        self.assertEqual(number_form(2, 2, (-2, 3)), ((((0, 0), (0, 0)), (-2, 3)),))
        for n, c in itertools.product(range(4), range(1, 4)):
            self.assertEqual(number_form(n, c, (0, 1)), ())
            self.assertTrue(is_form(number_form(n, c, (HUGE, 2)), n, c))

    def test_calls(self):
        check_call(self, sample_form, 3, 2, 1, 1)
        check_call(self, sample_form, 3, 2, 3, 2)
        check_call(self, number_form, 3, 2, (1, 2))
        check_call(self, number_form, 3, 2, (0, 1))
        check_call(self, is_form, ((((1,),), (1, 2)),), 1, 1)
        check_call(self, is_kinds, (((0,), 1),), 1)


class ReckoningTest(unittest.TestCase):

    def test_values(self):
        drawn = slow.Drawn(2)
        for form, n, c in drawn_forms(3, 6):
            other, x = drawn.form(n, c, 4), drawn.fraction()
            rows = tuple(drawn.row(c) for _ in range(n))
            one, two = slow.value(form, rows), slow.value(other, rows)
            self.assertEqual(form_at(form, rows), slow.pair(one))
            for made, worth in (
                    (plus_forms(form, other), one + two), (times_forms(form, other), one * two),
                    (scaled_form(form, x), slow.exact(x) * one)):
                self.assertTrue(is_form(made, n, c))
                self.assertEqual(form_at(made, rows), slow.pair(worth))
            check_call(self, form_at, form, rows)
            check_call(self, plus_forms, form, other)
            check_call(self, times_forms, form, other)
            check_call(self, scaled_form, form, x)

    def test_what_leaves_nothing(self):
        for form, _, _ in drawn_forms(4, 3):
            less = scaled_form(form, (-1, 1))
            self.assertEqual(plus_forms(form, less), ())
            self.assertEqual(plus_forms(form, ()), form)
            self.assertEqual(plus_forms((), form), form)
            self.assertEqual(times_forms(form, ()), ())
            self.assertEqual(times_forms((), form), ())
            self.assertEqual(scaled_form(form, (0, 1)), ())
            self.assertEqual(scaled_form(form, (1, 1)), form)
        a, b = sample_form(2, 1, 0, 0), sample_form(2, 1, 1, 0)
        less = plus_forms(a, scaled_form(b, (-1, 1)))
        self.assertEqual(times_forms(plus_forms(a, b), less), ((((0,), (2,)), (-1, 1)), (((2,), (0,)), (1, 1))))

    def test_edges(self):
        self.assertEqual(form_at((), ()), (0, 1))
        self.assertEqual(form_at((((), (1, 2)),), ()), (1, 2))
        self.assertEqual(form_at(((((0,),), (3, 4)),), (((0, 1),),)), (3, 4))
        self.assertEqual(times_forms((((), (1, 2)),), (((), (2, 1)),)), (((), (1, 1)),))
        self.assertEqual(plus_forms((((), (1, 2)),), (((), (-1, 2)),)), ())

    def test_great_numbers(self):
        form = ((((8,),), (HUGE, HUGE + 1)),)
        row = (((-HUGE, 7),),)
        self.assertEqual(form_at(form, row), slow.pair(Fraction(HUGE, HUGE + 1) * Fraction(HUGE, 7) ** 8))
        square = times_forms(form, form)
        self.assertEqual(square, ((((16,),), slow.pair(Fraction(HUGE, HUGE + 1) ** 2)),))
        self.assertEqual(form_at(times_forms(square, square), row), slow.pair(slow.value(square, row) ** 2))

    def test_degree_and_what_is_used(self):
        for form, n, c in drawn_forms(5, 8):
            degree = max((sum(map(sum, powers)) for powers, _ in form), default=0)
            self.assertEqual(form_degree(form), degree)
            self.assertEqual(samples_of(form), slow.hung((form,)))
            for sample in range(-2, n + 2):
                used = {k for powers, _ in form for k in range(c) if 0 <= sample < n and powers[sample][k]}
                self.assertEqual(columns_of(form, sample), tuple(sorted(used)))
                check_call(self, columns_of, form, sample)
            check_call(self, form_degree, form)
            check_call(self, samples_of, form)
        self.assertEqual((form_degree(()), samples_of(()), columns_of((), 0), columns_of((), -1)), (0, (), (), ()))

    def test_wider_and_pressed(self):
        drawn = slow.Drawn(6)
        for form, n, c in drawn_forms(7, 6):
            for further in range(3):
                wider = wider_form(form, n + further, c)
                self.assertTrue(is_form(wider, n + further, c))
                rows = tuple(drawn.row(c) for _ in range(n + further))
                self.assertEqual(form_at(wider, rows), form_at(form, rows[:n]))
                check_call(self, wider_form, form, n + further, c)
            kept = slow.hung((form,))
            pressed = pressed_form(form)
            self.assertTrue(is_form(pressed, len(kept), c))
            rows = tuple(drawn.row(c) for _ in range(n))
            self.assertEqual(form_at(pressed, tuple(rows[i] for i in kept)), form_at(form, rows))
            check_call(self, pressed_form, form)
        self.assertEqual(wider_form((), 3, 2), ())
        self.assertEqual(wider_form((((), (1, 2)),), 2, 1), ((((0,), (0,)), (1, 2)),))
        self.assertEqual(pressed_form(()), ())


class RenamingTest(unittest.TestCase):

    def test_renamed(self):
        for form, n, c in drawn_forms(8, 3):
            for order in slow.orders(n):
                self.assertEqual(renamed_form(form, order), slow.renamed(form, order))
            check_call(self, renamed_form, form, order)

    def test_unfit_orders(self):
        a = sample_form(2, 1, 0, 0)
        for order in ((), (0,), (0, 0), (1, 1), (0, 2), (-1, 0), (1, 2), (0, 1, 2), (-1, -2), (1, 0, 0)):
            with self.assertRaises(Unfit):
                renamed_form(a, order)
            check_call(self, renamed_form, a, order)
        for order in ((0,), (1, 0), (2, 0, 1), ()):
            self.assertEqual(renamed_form((), order), ())
        for order in ((1,), (0, 0), (-1, 0), (1, 2), (0, 2)):
            with self.assertRaises(Unfit):
                renamed_form((), order)
        none = number_form(0, 1, (1, 2))
        self.assertEqual(renamed_form(none, ()), none)
        with self.assertRaises(Unfit):
            renamed_form(none, (0,))

    def test_evened_against_all_orders(self):
        for form, n, _ in drawn_forms(9, 8):
            even = slow.evened(form, n)
            self.assertEqual(evened(form), even)
            self.assertIs(is_even(form), form == even)
            self.assertIs(is_even(form), all(slow.renamed(form, order) == form for order in slow.orders(n)))
            self.assertTrue(is_even(even))
            self.assertEqual(evened(even), even)
            check_call(self, evened, form)
            check_call(self, is_even, form)

    def test_edges(self):
        self.assertEqual((evened(()), is_even(())), ((), True))
        a, b = sample_form(2, 1, 0, 0), sample_form(2, 1, 1, 0)
        self.assertEqual(evened(plus_forms(a, scaled_form(b, (-1, 1)))), ())
        self.assertEqual(evened((((), (1, 2)),)), (((), (1, 2)),))
        # In a circle of three, that all are moved on changes nothing, but an exchange does.
        turning = tuple(sorted((own, (1, 1)) for own in (((0,), (1,), (2,)), ((1,), (2,), (0,)), ((2,), (0,), (1,)))))
        self.assertEqual(renamed_form(turning, (1, 2, 0)), turning)
        self.assertFalse(is_even(turning))
        self.assertEqual(len(evened(turning)), 6)

    def test_seven_samples(self):
        own = tuple((k,) for k in range(7))
        self.assertEqual(len(evened(((own, (1, 1)),))), 5040)
        self.assertEqual(evened(((own, (1, 1)),))[0], (own, (1, 5040)))
        mean = evened(sample_form(7, 3, 4, 1))
        self.assertEqual([x for _, x in mean], [(1, 7)] * 7)
        self.assertTrue(is_even(mean))


class KindsTest(unittest.TestCase):

    def test_is_kinds(self):
        for kinds, c in (
                ((((0,), 1),), 1), ((((0,), 1), ((0, 1), 2)), 2), ((((0, 2), 3), ((1,), 1), ((1, 2), 1)), 3),
                ((((0,), 10 ** 50), ((3,), 7)), 4), ((((10 ** 40,), 1),), 10 ** 41)):
            self.assertIs(is_kinds(kinds, c), True)
            for thing in slow.spoiled(kinds):
                self.assertIs(is_kinds(thing, c), False, thing)
        for kinds in (
                (), (((), 1),), (((0,), 0),), (((0,), -1),), (((2,), 1),), (((-1,), 1),), (((1, 0), 1),),
                (((0, 0), 1),), (((1,), 1), ((0,), 1)), (((0,), 1), ((0,), 1)), (((0,), 1), ((0,), 2)), ((0, 1),)):
            self.assertIs(is_kinds(kinds, 2), False, kinds)

    def test_kind_samples(self):
        self.assertEqual(kind_samples((((0,), 2), ((0, 1), 1), ((1,), 3))), ((0,), (0,), (0, 1), (1,), (1,), (1,)))
        check_call(self, kind_samples, (((0,), 1), ((0, 1), 2)))

    def test_fits(self):
        drawn = slow.Drawn(10)
        kinds = (((0,), 1), ((0, 1), 1), ((1,), 1))
        shown = ((0,), (0, 1), (1,))
        seen = set()
        for _ in range(200):
            n = drawn.choice([2, 3, 3, 3, 4])
            form = drawn.form(n, 2, 2, 1)
            right = form == () or n == 3 and all(
                k in shown[i] for powers, _ in form for i in range(3) for k in range(2) if powers[i][k])
            self.assertIs(fits(form, kinds), right)
            seen.add((right, n))
        self.assertTrue({(True, 3), (False, 3), (False, 2), (False, 4)} <= seen)
        check_call(self, fits, sample_form(3, 2, 0, 0), kinds)
        check_call(self, fits, sample_form(3, 2, 0, 1), kinds)
        self.assertTrue(fits((), kinds))
        self.assertFalse(fits(number_form(2, 2, (1, 1)), kinds))
        self.assertFalse(fits((((), (1, 1)),), kinds))
        self.assertTrue(fits(number_form(3, 2, (1, 1)), kinds))


if __name__ == "__main__":
    unittest.main()
