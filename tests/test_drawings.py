import itertools
import unittest

import slow
from calls import check_call, outcome
from everysource.drawings import (
    are_apart_at, chance_told, drawings, form_mean, form_spread, forms_together, is_law, law_means, law_spreads,
    told_chances,
)
from everysource.errors import NoPlace, TooMuch
from everysource.forms import evened, form_at, is_form, number_form, plus_forms, sample_form, scaled_form, times_forms
from everysource.sources import even_source

ZERO, HALF, UNIT = (0, 1), (1, 2), (1, 1)
HUGE = 10 ** 30 + 57


def settings(seed, many, t=2):
    """Tuples (drawn, n, c, TELLER, SOURCE)."""
    drawn = slow.Drawn(seed)
    out = []
    for _ in range(many):
        for n in range(4):
            c = drawn.number(1, 3)
            out.append((drawn, n, c, drawn.teller(n, c, t), drawn.source(c, 3, 2)))
    return out


def whole_numbers(many):
    return even_source(tuple(((k, 1),) for k in range(many)))


class IsLawTest(unittest.TestCase):

    def test_right_things(self):
        for t in (1, 2, 4):
            for _, n, c, teller, _ in settings(t, 6, t):
                self.assertIs(is_law(teller, n, c), True)
                idle = all(form == () for tells, _ in teller for form in tells)
                self.assertIs(is_law(teller, n + 1, c), idle)
                check_call(self, is_law, teller, n, c)

    def test_one_wrong_place(self):
        a, b = sample_form(2, 1, 0, 0), sample_form(2, 1, 1, 0)
        mixed, bare = ((((1, 2),), (3, 4)),), (((), (1, 2)),)
        for teller, n, c in (
                ((((b, a), HALF), ((a, ()), HALF)), 2, 1), ((((mixed,), UNIT),), 1, 2), ((((bare,), UNIT),), 0, 1)):
            self.assertTrue(is_law(teller, n, c))
            for thing in slow.spoiled(teller):
                self.assertIs(is_law(thing, n, c), False, thing)

    def test_order_weights_and_lengths(self):
        a, b = sample_form(2, 1, 0, 0), sample_form(2, 1, 1, 0)
        self.assertLess(b, a)
        for teller, right in (
                ((((b,), HALF), ((a,), HALF)), True), ((((a,), HALF), ((b,), HALF)), False),
                ((((a,), HALF), ((a,), HALF)), False), ((((a,), UNIT),), True), ((((a,), HALF),), False),
                ((((a,), (2, 2)),), False), ((((b,), (3, 2)), ((a,), (-1, 2))), False), ((((b,), ZERO), ((a,), UNIT)), False),
                ((((b,), HALF), ((a, a), HALF)), False), ((((), UNIT),), False), ((), False), ((((b,), (1, 3)), ((a,), HALF)), False),
                (((((),), HALF), ((a,), HALF)), True), ((((a,), UNIT, UNIT),), False), (((a, UNIT),), False),
                ((((b,), (1, HUGE)), ((a,), (HUGE - 1, HUGE))), True)):
            self.assertIs(is_law(teller, 2, 1), right, teller)
        self.assertFalse(is_law((((a,), UNIT),), 3, 1))
        self.assertFalse(is_law((((a,), UNIT),), 2, 2))
        # FORMS stand in the order of the tuples as they are, not of the quotients in them.
        for low, high in (((1, 1), (1, 2)), ((-1, 2), (-1, 3)), ((-2, 1), (-1, 1)), ((2, 3), (3, 5))):
            one, other = ((number_form(2, 1, x),) for x in (low, high))
            self.assertTrue(is_law(((one, HALF), (other, HALF)), 2, 1))
            self.assertFalse(is_law(((other, HALF), (one, HALF)), 2, 1))

    def test_beyond_the_bounds(self):
        many = 60
        tells = [tuple(number_form(9, 5, (k, 1)) for _ in range(11)) for k in range(1, many + 1)]
        teller = tuple((own, (1, many)) for own in sorted(tells))
        self.assertTrue(is_law(teller, 9, 5))
        self.assertFalse(is_law(teller[1:], 9, 5))
        self.assertTrue(is_law((((sample_form(1, 1, 0, 0),) * 30, UNIT),), 1, 1))
        self.assertTrue(is_law(((((),), UNIT),), 10 ** 40, 10 ** 40))

    def test_strange_things(self):
        for thing in slow.STRANGE:
            for n, c in ((0, 1), (2, 1)):
                self.assertIs(is_law(thing, n, c), False)


class TooMuchTest(unittest.TestCase):

    def calls(self, source, n):
        a = sample_form(n, 1, 0, 0) if n else ()
        teller = (((a, a), UNIT),)
        return [
            (drawings, (source, n)), (told_chances, (teller, source, n)),
            (chance_told, (teller, source, n, (ZERO, ZERO))), (form_mean, (a, source, n)), (form_spread, (a, source, n)),
            (forms_together, (a, a, source, n)), (law_means, (teller, source, n)), (law_spreads, (teller, source, n)),
            (are_apart_at, (teller, source, n, (0,), (1,)))]

    def test_above_8000(self):
        for rows, n in ((90, 2), (21, 3), (10, 4), (7, 5), (5, 6), (4, 7), (2, 13), (100, 2), (2, 10 ** 6)):
            for function, args in self.calls(whole_numbers(rows), n) if n < 20 else [(drawings, (whole_numbers(rows), n))]:
                with self.assertRaises(TooMuch, msg=(function.__name__, rows, n)):
                    function(*args)

    def test_up_to_8000(self):
        for rows, n in ((20, 3), (89, 2), (100, 1), (100, 0), (2, 12), (1, 7), (1, 30)):
            for function, args in self.calls(whole_numbers(rows), n):
                self.assertEqual(outcome(function, args, {})[0], "value", (function.__name__, rows, n))

    def test_one_more_than_8000(self):
        own = sample_form(1, 1, 0, 0)
        self.assertEqual(len(drawings(whole_numbers(8000), 1)), 8000)
        self.assertEqual(form_mean(own, whole_numbers(8000), 1), (7999, 2))
        for function, args in self.calls(whole_numbers(8001), 1):
            with self.assertRaises(TooMuch):
                function(*args)

    def test_ahead_of_all_else(self):
        source, a = whole_numbers(21), sample_form(3, 1, 0, 0)
        got = check_call(self, are_apart_at, (((a,), UNIT),), source, 3, (0,), (5,))
        self.assertEqual(got[1], TooMuch)
        got = check_call(self, are_apart_at, (((a,), UNIT),), whole_numbers(20), 3, (0,), (5,))
        self.assertEqual(got, ("error", NoPlace, {"place": 5}))
        check_call(self, drawings, source, 3)


class DrawingsTest(unittest.TestCase):

    def test_drawings(self):
        drawn = slow.Drawn(1)
        for n in range(4):
            for c in (1, 2, 3):
                source = drawn.source(c, 4)
                right = [(rows, slow.pair(chance)) for rows, chance in slow.drawings(source, n)]
                right = sorted(right, key=lambda own: [[slow.exact(x) for x in row] for row in own[0]])
                self.assertEqual(drawings(source, n), right)
                check_call(self, drawings, source, n)
        self.assertEqual(drawings(source, 0), [((), UNIT)])

    def test_told_chances(self):
        for t in (1, 2, 3):
            for drawn, n, _, teller, source in settings(10 + t, 5, t):
                table = slow.told(teller, source, n)
                ranked = sorted(table, key=lambda told: [slow.exact(x) for x in told])
                right = tuple((told, slow.pair(table[told])) for told in ranked)
                self.assertEqual(told_chances(teller, source, n), right)
                for told, chance in right[:5]:
                    self.assertEqual(chance_told(teller, source, n, told), chance)
                    check_call(self, chance_told, teller, source, n, told)
                self.assertEqual(chance_told(teller, source, n, ((77, 5),) * t), ZERO)
                check_call(self, told_chances, teller, source, n)

    def test_order_of_what_is_told(self):
        source = even_source((((1, 2),), ((1, 1),), ((3, 4),), ((-1, 1),), ((-3, 2),), ((-1, 2),)))
        a = sample_form(1, 1, 0, 0)
        told = [numbers[0] for numbers, _ in told_chances((((a,), UNIT),), source, 1)]
        self.assertEqual(told, [(-3, 2), (-1, 1), (-1, 2), (1, 2), (3, 4), (1, 1)])
        less = scaled_form(a, (-1, 1))
        told = [numbers[1] for numbers, _ in told_chances((((number_form(1, 1, UNIT), less), UNIT),), source, 1)]
        self.assertEqual(told, [(-1, 1), (-3, 4), (-1, 2), (1, 2), (1, 1), (3, 2)])

    def test_means_and_spreads(self):
        for drawn, n, c, teller, source in settings(20, 8, 2):
            form, other = teller[0][0]
            one, two = slow.mean(form, source, n), slow.mean(other, source, n)
            self.assertEqual(form_mean(form, source, n), slow.pair(one))
            rows = slow.drawings(source, n)
            spread = sum(x * (slow.value(form, own) - one) ** 2 for own, x in rows)
            self.assertEqual(form_spread(form, source, n), slow.pair(spread))
            both = sum(x * (slow.value(form, own) - one) * (slow.value(other, own) - two) for own, x in rows)
            self.assertEqual(forms_together(form, other, source, n), slow.pair(both))
            check_call(self, form_mean, form, source, n)
            check_call(self, form_spread, form, source, n)
            check_call(self, forms_together, form, other, source, n)

    def test_means_by_moments(self):
        for drawn, n, c, teller, source in settings(21, 5, 1):
            form = teller[0][0][0]
            mean = 0
            for powers, x in form:
                term = slow.exact(x)
                for own in powers:
                    term *= sum(slow.exact(chance) * slow.monomial(row, own) for row, chance in source)
                mean += term
            self.assertEqual(form_mean(form, source, n), slow.pair(mean))

    def test_law_means_and_spreads(self):
        for t in (1, 2, 4):
            for drawn, n, c, teller, source in settings(30 + t, 4, t):
                table = slow.told(teller, source, n)
                means = [sum(x * slow.exact(told[k]) for told, x in table.items()) for k in range(t)]
                spreads = [sum(x * (slow.exact(told[k]) - means[k]) ** 2 for told, x in table.items()) for k in range(t)]
                self.assertEqual(law_means(teller, source, n), tuple(slow.pair(x) for x in means))
                self.assertEqual(law_spreads(teller, source, n), tuple(slow.pair(x) for x in spreads))
                check_call(self, law_means, teller, source, n)
                check_call(self, law_spreads, teller, source, n)

    def test_edges(self):
        source = whole_numbers(3)
        self.assertEqual(form_mean((), source, 2), ZERO)
        self.assertEqual(form_spread((), source, 0), ZERO)
        self.assertEqual(form_mean((((), HALF),), source, 0), HALF)
        self.assertEqual(told_chances(((((),), UNIT),), source, 3), (((ZERO,), UNIT),))
        idle = (((number_form(2, 1, HALF),), (1, 3)), ((sample_form(2, 1, 1, 0),), (2, 3)))
        self.assertEqual(chance_told(idle, source, 2, (HALF,)), (1, 3))
        self.assertEqual(forms_together(sample_form(2, 1, 0, 0), number_form(2, 1, HALF), source, 2), ZERO)

    def test_great_numbers(self):
        source = (((((-HUGE, 3), (1, HUGE)), (1, HUGE)), (((HUGE, 7), (5, 1)), (HUGE - 1, HUGE))))
        form = ((((0, 1), (2, 0)), (HUGE, 11)), (((3, 0), (0, 0)), (-1, HUGE)))
        self.assertTrue(is_form(form, 2, 2))
        self.assertEqual(form_mean(form, source, 2), slow.pair(slow.mean(form, source, 2)))
        table = slow.told((((form,), UNIT),), source, 2)
        self.assertEqual(dict(told_chances((((form,), UNIT),), source, 2)), {k: slow.pair(x) for k, x in table.items()})
        square = times_forms(times_forms(form, form), times_forms(form, form))
        self.assertEqual(form_mean(square, source, 2), slow.pair(slow.mean(square, source, 2)))

    def test_greater_settings(self):
        source = whole_numbers(3)
        own = tuple((k % 3,) for k in range(7))
        even = evened(((own, UNIT),))
        self.assertEqual(form_mean(even, source, 7), form_mean(((own, UNIT),), source, 7))
        table = told_chances((((even,), UNIT),), source, 7)
        self.assertEqual(sum(slow.exact(x) for _, x in table), 1)
        rows = tuple(((k % 2, 1),) for k in range(7))
        self.assertIn((form_at(even, rows),), [told for told, _ in table])


class ApartAtTest(unittest.TestCase):

    def test_against_the_table(self):
        answers = []
        for drawn, n, c, teller, source in settings(40, 25, 3):
            table = slow.told(teller, source, n)
            for lot, others in (((0,), (1,)), ((0, 2), (1,)), ((2,), (0, 1)), ((), (0,)), ((1,), ()), ((0, 1), (1, 2)), ((2,), (2,))):
                right = slow.independent(table, lot, others)
                self.assertIs(are_apart_at(teller, source, n, lot, others), right)
                answers.append(right)
            check_call(self, are_apart_at, teller, source, n, (0, 2), (1,))
        self.assertTrue(50 < answers.count(True) < len(answers) - 50)

    def test_samples_of_their_own(self):
        drawn = slow.Drawn(41)
        a, b = sample_form(2, 1, 0, 0), sample_form(2, 1, 1, 0)
        for _ in range(10):
            source = drawn.source(1, 4)
            self.assertTrue(are_apart_at((((a, b), UNIT),), source, 2, (0,), (1,)))
            self.assertTrue(are_apart_at((((b, a), HALF), ((a, b), HALF)), source, 2, (0,), (1,)))
            self.assertIs(are_apart_at((((b, b), HALF), ((a, a), HALF)), source, 2, (0,), (1,)), len(source) == 1)
            self.assertIs(are_apart_at((((a, plus_forms(a, b)), UNIT),), source, 2, (0,), (1,)), len(source) == 1)

    def test_no_place(self):
        a = sample_form(1, 1, 0, 0)
        teller = (((a, a), UNIT),)
        for lot, others, place in (
                ((0,), (2,), 2), ((2,), (0,), 2), ((2,), (3,), 2), ((-1,), (5,), -1), ((0,), (-2, -1), -2),
                ((0, 7), (-3,), 7), ((), (2,), 2), ((-1, 0), (1,), -1)):
            got = check_call(self, are_apart_at, teller, whole_numbers(2), 1, lot, others)
            self.assertEqual(got, ("error", NoPlace, {"place": place}))

    def test_all_lots_of_four(self):
        drawn = slow.Drawn(42)
        teller, source = drawn.teller(2, 1, 4), drawn.source(1, 2)
        table = slow.told(teller, source, 2)
        for size in range(1, 4):
            for lot in itertools.combinations(range(4), size):
                others = tuple(k for k in range(4) if k not in lot)
                right = slow.independent(table, lot, others)
                self.assertIs(are_apart_at(teller, source, 2, lot, others), right)


if __name__ == "__main__":
    unittest.main()
