import itertools
import unittest
from fractions import Fraction

import slow
from calls import check_call, outcome
from everysource.errors import CanNot, Unfit
from everysource.means import (
    first_unlike, is_parting_source, is_there, is_writing, mean_table, parting_source, right_writing, rows_needed,
    same_for_all, same_mean, showing_source, written_form, written_mean,
)
from everysource.sources import is_source
from everysource.wishes import central, cumulant, is_wish, wish_less, wish_of, wish_times

ZERO, HALF, UNIT = (0, 1), (1, 2), (1, 1)
HUGE = 10 ** 30 + 57


def worth(poly, n):
    return sum(number * n ** k for k, number in enumerate(poly))


def is_lowest(ratio):
    """Whether a QUOTIENT, its top not (), is in lowest terms, by Euclid over all fractions."""
    top, bottom = ([Fraction(x) for x in poly] for poly in ratio)
    one, other = bottom, top
    while other:
        while len(one) >= len(other):
            share = one[-1] / other[-1]
            shift = len(one) - len(other)
            one = [x - share * (other[k - shift] if k >= shift else 0) for k, x in enumerate(one)]
            while one and one[-1] == 0:
                one.pop()
        one, other = other, one
    numbers = ratio[0] + ratio[1]
    shared = any(all(x % d == 0 for x in numbers) for d in range(2, 2 + max(abs(x) for x in numbers[:3]) % 5000))
    return len(one) == 1 and not shared and ratio[1][-1] > 0


def drawn_poly(drawn, most=3, empty=False):
    while True:
        poly = [drawn.number(-3, 3) for _ in range(drawn.number(0, most))]
        while poly and poly[-1] == 0:
            poly.pop()
        if poly or empty:
            return tuple(poly)


def drawn_writing(drawn, c, triples=3, factors=3):
    out = []
    for _ in range(drawn.number(0, triples)):
        own = tuple(sorted(drawn.moment(c, 1) for _ in range(drawn.number(0, factors))))
        out.append((drawn.choice(("any", "unlike")), own, (drawn_poly(drawn, 3, True), drawn_poly(drawn))))
    return tuple(out)


def there(writing, n):
    return all(worth(bottom, n) != 0 for _, _, (_, bottom) in writing)


def slow_told(writing, rows):
    """What the program of a WRITING tells of these ROWS."""
    n, out = len(rows), Fraction(0)
    for kind, factors, (top, bottom) in writing:
        x = Fraction(worth(top, n), worth(bottom, n))
        for places in itertools.product(range(n), repeat=len(factors)):
            if kind == "any" or len(set(places)) == len(places):
                term = x
                for place, own in zip(places, factors):
                    term *= slow.monomial(rows[place], own)
                out += term
    return out


def slow_mean(writing, n):
    pairs = []
    for kind, factors, (top, bottom) in writing:
        for lots in slow.partings(len(factors)):
            if kind == "any" or len(lots) == len(factors):
                x = Fraction(worth(top, n), worth(bottom, n))
                for k in range(len(lots)):
                    x *= n - k
                sums = [tuple(sum(column) for column in zip(*[factors[p] for p in lot])) for lot in lots]
                pairs.append((tuple(sorted(sums)), x))
    return slow.from_sums(slow.added(pairs))


def differences(n):
    """The product of the squares of all differences of n samples of one column."""
    out = ((((0,),) * n, UNIT),)
    for i, j in itertools.combinations(range(n), 2):
        for _ in range(2):
            one = tuple((1,) if k == i else (0,) for k in range(n))
            other = tuple((1,) if k == j else (0,) for k in range(n))
            out = slow.times(out, tuple(sorted([(one, UNIT), (other, (-1, 1))])))
    return out


def some_wishes(seed, many):
    drawn = slow.Drawn(seed)
    out = [(drawn.wish(c, 3, 3), c) for _ in range(many) for c in (1, 2, 3)]
    out += [(central((1,), k), 1) for k in range(2, 6)] + [(cumulant((2, 1), k), 2) for k in range(1, 5)]
    out += [(wish_times(central((1,), 2), cumulant((1,), 3)), 1), (wish_times(central((1,), 2), central((2,), 2)), 1)]
    return drawn, out


class RowsTest(unittest.TestCase):

    def test_rows_needed(self):
        drawn, wishes = some_wishes(1, 12)
        for wish, c in wishes:
            right = None
            for many in range(1, max(slow.wish_degree(wish), 1) + 1 if wish else 1):
                tries = [slow.source_of_rows(drawn, c, many) for _ in range(6)]
                if right is None and any(slow.wish_value(wish, source) != 0 for source in tries):
                    right = many
            self.assertEqual(rows_needed(wish), right, wish)
            check_call(self, rows_needed, wish)

    def test_squares_of_differences(self):
        for n in (1, 2, 3, 4):
            self.assertEqual(rows_needed(wish_of(differences(n))), n)
        self.assertEqual([rows_needed(central((1,), k)) for k in (0, 2, 3, 4)], [1, 2, 2, 2])
        self.assertEqual(rows_needed(wish_less(central((2,), 2), ())), 2)

    def test_edges_of_rows_needed(self):
        for wish, right in (
                ((), None), ((((), HALF),), 1), (((((1,),), UNIT),), 1), (((((1,), (1,)), UNIT),), 1),
                ((((), UNIT), (((1,),), (-1, 1))), 1), ((((), (-1, 1)), (((5,),) * 5, (HUGE, 3))), 1),
                (((((1,), (1,)), (HUGE, 2)), (((2,),), (-HUGE, 2))), 2),
                (((((1,), (1,)), (HUGE, 2)), (((2,),), (1 - HUGE, 2))), 1),
                (((((0, 1), (1, 0)), UNIT), (((1, 1),), (-1, 1))), 2)):
            self.assertEqual(rows_needed(wish), right, wish)

    def test_showing_source(self):
        drawn, wishes = some_wishes(2, 12)
        wishes += [(wish_of(differences(n)), 1) for n in (2, 3, 4)] + [((((), HALF),), 3), (((((8,),), (HUGE, 7)),), 1)]
        for wish, c in wishes:
            if wish == ():
                continue
            source = showing_source(wish, c)
            self.assertTrue(is_source(source, c))
            self.assertEqual(len(source), rows_needed(wish))
            self.assertNotEqual(slow.wish_value(wish, source), 0)
            check_call(self, showing_source, wish, c)
        self.assertEqual(check_call(self, showing_source, (), 2), ("error", CanNot, {}))


class SameMeanTest(unittest.TestCase):

    def test_same_mean(self):
        drawn = slow.Drawn(3)
        for _ in range(40):
            c, n, m = drawn.number(1, 2), drawn.number(0, 3), drawn.number(0, 3)
            form, other = drawn.form(n, c), drawn.form(m, c)
            self.check(form, other, c)
            self.check(form, slow.renamed(form, drawn.order(n)), c)
            self.check(form, slow.evened(form, n), c)

    def check(self, form, other, c):
        same = slow.wish_of(form) == slow.wish_of(other)
        self.assertIs(same_mean(form, other), same)
        check_call(self, same_mean, form, other)
        found = check_call(self, parting_source, form, other, c)
        if same:
            self.assertEqual(found, ("error", CanNot, {}))
            self.assertIs(is_parting_source(form, other, c, (((ZERO,) * c, UNIT),)), False)
            return
        source = found[1]
        gap = slow.plus(slow.wish_of(form), slow.wish_of(other), -1)
        self.assertTrue(is_source(source, c))
        self.assertEqual(len(source), rows_needed(gap))
        self.assertNotEqual(slow.wish_value(gap, source), 0)
        self.assertIs(is_parting_source(form, other, c, source), True)
        check_call(self, is_parting_source, form, other, c, source)

    def test_by_drawings(self):
        drawn = slow.Drawn(4)
        for _ in range(40):
            form, other, source = drawn.form(2, 2), drawn.form(1, 2), drawn.source(2)
            right = slow.mean(form, source, 2) != slow.mean(other, source, 1)
            self.assertIs(is_parting_source(form, other, 2, source), right)

    def test_wrong_parting_sources(self):
        a, b = ((((1, 0), (0, 0)), UNIT),), ((((0, 1),), UNIT),)
        source = (((ZERO, UNIT), HALF), ((UNIT, UNIT), HALF))
        self.assertIs(is_parting_source(a, b, 2, source), True)
        for thing in slow.spoiled(source) + list(slow.STRANGE) + [source[::-1], source[:1], source + source]:
            self.assertIs(is_parting_source(a, b, 2, thing), False, thing)
        self.assertIs(is_parting_source(a, a, 2, source), False)
        self.assertIs(is_parting_source(a, b, 3, source), False)
        alike = (((UNIT, UNIT), HALF), ((ZERO, ZERO), HALF))
        self.assertIs(is_parting_source(a, b, 2, tuple(sorted(alike))), False)
        many = tuple((((k, 1), (k * k, 1)), (1, 300)) for k in range(300))
        self.assertIs(is_parting_source(a, b, 2, many), True)
        great = ((((-HUGE ** 3, 2), ZERO), (1, HUGE ** 2)), ((UNIT, ZERO), (HUGE ** 2 - 1, HUGE ** 2)))
        self.assertIs(is_parting_source(a, b, 2, great), True)


class WritingTest(unittest.TestCase):

    def test_is_writing(self):
        for thing, right in (
                ((), True), ((("any", (), ((), (1,))),), True), ((("any", (), ((0, 1), (1,))),), True),
                ((("unlike", ((0, 1), (1, 0)), ((-3,), (0, 0, -2))),) * 2, True),
                ((("unlike", ((1, 0), (0, 1)), ((-3,), (1,))),), False), ((("any", (), ((1,), ())),), False),
                ((("any", (), ((1, 0), (1,))),), False), ((("any", (), ((1,), (0,))),), False),
                ((("any", (), ((0,), (1,))),), False), ((("all", (), ((1,), (1,))),), False),
                ((("any", ((0, 0),), ((1,), (1,))),), False), ((("any", ((1,),), ((1,), (1,))),), False),
                ((("", (), ((1,), (1,))),), False), ((("any", (), ((1,), (1,)), 0),), False),
                ((("any", (), ((1,), (1,), (1,))),), False), ((("an", (), ((1,), (1,))),), False),
                ((("any", (), ((HUGE ** 9,) * 99, (HUGE,) * 50)),) * 99, True),
                ((("any", ((1, HUGE),) * 80, ((1,), (1,))),), True)):
            self.assertIs(is_writing(thing, 2), right, thing)
        good = (("any", ((0, 1), (1, 0)), ((0, 1), (2, 1))), ("unlike", (), ((), (3,))))
        check_call(self, is_writing, good, 2)
        for thing in slow.spoiled(good):
            self.assertIs(is_writing(thing, 2), False, thing)
        for thing in slow.STRANGE:
            self.assertIs(is_writing(thing, 2), thing == () and isinstance(thing, tuple))
        drawn = slow.Drawn(5)
        for _ in range(30):
            self.assertIs(is_writing(drawn_writing(drawn, 2), 2), True)

    def test_is_there(self):
        drawn = slow.Drawn(6)
        for _ in range(60):
            writing = drawn_writing(drawn, 1)
            for n in range(6):
                self.assertIs(is_there(writing, n), there(writing, n))
                check_call(self, is_there, writing, n)
        self.assertEqual([is_there((), n) for n in (0, 1000)], [True, True])
        self.assertEqual([is_there((("any", (), ((), (-1000, 1))),), n) for n in (999, 1000)], [True, False])

    def test_written_form(self):
        drawn = slow.Drawn(7)
        for _ in range(40):
            c = drawn.number(1, 2)
            writing = drawn_writing(drawn, c)
            for n in range(4):
                got = check_call(self, written_form, writing, n, c)
                if not there(writing, n):
                    self.assertEqual(got, ("error", Unfit, {}))
                    continue
                rows = tuple(drawn.row(c) for _ in range(n))
                self.assertEqual(slow.value(got[1], rows), slow_told(writing, rows))
                self.assertTrue(all(len(powers) == n and x[0] != 0 for powers, x in got[1]))
                self.assertEqual(list(got[1]), sorted(got[1]))

    def test_written_mean(self):
        drawn = slow.Drawn(8)
        for _ in range(40):
            c = drawn.number(1, 2)
            writing, source = drawn_writing(drawn, c), drawn.source(c, 2)
            for n in list(range(6)) + [40, 1000]:
                got = check_call(self, written_mean, writing, n)
                if not there(writing, n):
                    self.assertEqual(got, ("error", Unfit, {}))
                    continue
                self.assertTrue(is_wish(got[1], c))
                self.assertEqual(got[1], slow_mean(writing, n))
                if n < 4:
                    right = sum((x * slow_told(writing, rows) for rows, x in slow.drawings(source, n)), Fraction(0))
                    self.assertEqual(slow.wish_value(got[1], source), right)

    def test_four_factors_and_great_numbers(self):
        writing = (("any", ((1,), (1,), (1,), (2,)), ((0, -1000, 999, 0, 1000), (1000, 0, 0, 0, -999))),) * 6
        self.assertEqual(written_mean(writing, 1000), slow_mean(writing, 1000))
        self.assertEqual(written_form(writing, 0, 1), ())
        self.assertEqual(wish_of(written_form(writing, 5, 1)), written_mean(writing, 5))
        self.assertEqual(written_form((("unlike", (), ((2,), (4,))),), 0, 1), (((), HALF),))
        self.assertEqual(written_form((("any", (), ((0, 1), (4,))),), 2, 1), ((((0,), (0,)), HALF),))


class TableTest(unittest.TestCase):

    def test_mean_table(self):
        drawn = slow.Drawn(9)
        for _ in range(60):
            c = drawn.number(1, 2)
            writing = drawn_writing(drawn, c)
            table = mean_table(writing)
            check_call(self, mean_table, writing)
            self.assertEqual(list(table), sorted(set(table)))
            self.assertEqual(len({factors for factors, _ in table}), len(table))
            for _, (top, bottom) in table:
                self.assertNotEqual(top, ())
                self.assertTrue(is_lowest((top, bottom)), (top, bottom))
            for n in range(16):
                if there(writing, n):
                    self.assertTrue(all(worth(bottom, n) != 0 for _, (_, bottom) in table))
                    at = slow.from_sums({
                        factors: Fraction(worth(top, n), worth(bottom, n)) for factors, (top, bottom) in table})
                    self.assertEqual(at, slow_mean(writing, n))
                    self.assertEqual(at, written_mean(writing, n))

    def test_tables_that_are_known(self):
        n_over_n = (("any", (), ((0, -2), (0, -4))),)
        self.assertEqual(mean_table(n_over_n), (((), ((1,), (2,))),))
        gone = (("any", ((1,),), ((1,), (0, 1))), ("unlike", ((1,),), ((-1, -1), (0, 1, 1))))
        self.assertEqual(mean_table(gone), ())
        self.assertEqual((mean_table(()), mean_table((("any", ((1,),), ((), (0, 3))),))), ((), ()))
        steep = (("unlike", ((1,),) * 4, ((1,), (0, -6, 11, -6, 1))),)
        self.assertEqual(mean_table(steep), ((((1,),) * 4, ((1,), (1,))),))
        great = (("any", ((1,), (1,)), ((1000,), (999,))),)
        self.assertEqual(
            mean_table(great),
            ((((1,), (1,)), ((0, -1000, 1000), (999,))), (((2,),), ((0, 1000), (999,)))))

    def test_same_for_all(self):
        drawn = slow.Drawn(10)
        unlike = 0
        for _ in range(80):
            c = drawn.number(1, 2)
            one = drawn_writing(drawn, c, 2, 2)
            other = drawn_writing(drawn, c, 2, 2) if drawn.number(0, 2) == 0 else self.rewritten(drawn, one)
            places = [n for n in range(60) if there(one, n) and there(other, n)]
            gaps = [n for n in places if slow_mean(one, n) != slow_mean(other, n)]
            self.assertIs(same_for_all(one, other), gaps == [])
            self.assertEqual(first_unlike(one, other), gaps[0] if gaps else None)
            check_call(self, same_for_all, one, other)
            check_call(self, first_unlike, one, other)
            unlike += gaps != []
        self.assertGreater(unlike, 20)
        self.assertLess(unlike, 70)

    def rewritten(self, drawn, writing):
        """A WRITING with the same means where both are there, or nearly so."""
        out = []
        for kind, factors, (top, bottom) in writing:
            shift = drawn_poly(drawn, 2)
            more = tuple(self.product(poly, shift) for poly in (top, bottom))
            if kind == "any" and len(factors) == 2 and drawn.number(0, 1):
                joined = (tuple(k + m for k, m in zip(*factors)),)
                out += [("unlike", factors, more), ("any", joined, (top, bottom))]
            else:
                out.append((kind, factors, more))
        if drawn.number(0, 3) == 0:
            off = self.product(self.product((-drawn.number(0, 3), 1), (-drawn.number(0, 3), 1)), (-1, 1))
            out.append(("any", (), (off, (1,))))
        return tuple(out)

    def product(self, one, other):
        out = [0] * (len(one) + len(other))
        for i, x in enumerate(one):
            for j, y in enumerate(other):
                out[i + j] += x * y
        while out and out[-1] == 0:
            out.pop()
        return tuple(out)

    def test_first_unlike_far_off(self):
        # There at no n below 6, alike at 6, 7 and 9.
        bottom = self.product(self.product(self.product((0, 1), (-1, 1)), (-2, 1)), (-3, 1))
        far = (("any", (), ((1,), bottom)), ("any", (), ((1,), (20, -9, 1))))
        zero = self.product(self.product((-6, 1), (-7, 1)), (-9, 1))
        self.assertEqual(first_unlike(far, far + (("any", (), (zero, (1,))),)), 8)
        self.assertEqual(first_unlike((("any", (), ((-600, 1), (1,))),), ()), 0)
        self.assertIs(first_unlike((), (("any", ((1,),), ((), (0, 1))),)), None)
        self.assertIs(first_unlike(far, far), None)

    def test_right_writing(self):
        drawn, wishes = some_wishes(11, 12)
        wishes += [((), 1), ((((), (-1, 2)),), 1), (((((1,),) * 5, (HUGE, 12)),), 1)]
        for wish, c in wishes:
            writing = right_writing(wish)
            self.assertTrue(is_writing(writing, c))
            check_call(self, right_writing, wish)
            self.assertEqual([factors for _, factors, _ in writing], [factors for factors, _ in wish])
            for (kind, factors, ratio), (_, x) in zip(writing, wish):
                self.assertEqual((kind, is_lowest(ratio)), ("unlike", True))
                n = 11
                steps = Fraction(1)
                for k in range(len(factors)):
                    steps *= n - k
                self.assertEqual(Fraction(worth(ratio[0], n), worth(ratio[1], n)), Fraction(*x) / steps)
            degree = slow.wish_degree(wish)
            for n in range(degree, degree + 6):
                self.assertTrue(is_there(writing, n))
                self.assertEqual(written_mean(writing, n), wish)
            for n in range(degree):
                self.assertEqual(is_there(writing, n), False)
        self.assertEqual(right_writing(((((1,), (1,)), (3, 2)),)), (("unlike", ((1,), (1,)), ((3,), (0, -2, 2))),))


if __name__ == "__main__":
    unittest.main()
