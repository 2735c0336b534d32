import itertools
import math
import unittest
from fractions import Fraction

import slow
from calls import check_call, outcome
from everysource.best import best_program
from everysource.errors import CanNot, NoPlace
from everysource.forms import is_form
from everysource.layers import (
    best_spread, enough_samples, is_spread_paper, layer, layer_shares, layers_at, own_spread, part_form, shared_mean,
    spread_paper,
)
from everysource.sources import is_source
from everysource.wishes import is_wish
from test_shifts import at

ZERO, HALF, UNIT = (0, 1), (1, 2), (1, 1)
MEAN, SQUARE = ((((1,),), UNIT),), ((((1,), (1,)), UNIT),)
SPREAD = ((((1,), (1,)), (-1, 1)), (((2,),), UNIT))
HUGE = 10 ** 30 + 57
CANNOT = ("error", CanNot, {})


def full(wish, rows):
    """What the best program of as many samples as the degree tells of these ROWS: the mean over all seatings."""
    m, out = len(rows), Fraction(0)
    for factors, x in wish:
        ways = list(itertools.permutations(range(m), len(factors)))
        for way in ways:
            term = slow.exact(x) / len(ways)
            for place, own in zip(way, factors):
                term *= slow.monomial(rows[place], own)
            out += term
    return out


def part_value(wish, source, rows):
    """The value of the part of as many samples as rows."""
    k, m, out = len(rows), slow.wish_degree(wish), Fraction(0)
    for size in range(k + 1):
        for lot in itertools.combinations(rows, size):
            mean = sum((x * full(wish, lot + more) for more, x in slow.drawings(source, m - size)), Fraction(0))
            out += mean if (k - size) % 2 == 0 else -mean
    return out


def some_wishes(seed, many, most=3):
    drawn = slow.Drawn(seed)
    for _ in range(many):
        for factors in range(1, most + 1):
            c = drawn.number(1, 2)
            yield drawn, drawn.wish(c, 3, factors), c


class LayerTest(unittest.TestCase):

    def test_shared_means(self):
        for drawn, wish, c in some_wishes(1, 8):
            m, source = slow.wish_degree(wish), drawn.source(c, 2, 2)
            for k in range(-2, m + 3):
                got = check_call(self, shared_mean, wish, k)
                if not 0 <= k <= m:
                    self.assertEqual(got, ("error", NoPlace, {"place": k}))
                    continue
                self.assertTrue(is_wish(got[1], c))
                right = sum((x * full(wish, rows[:m]) * full(wish, rows[m - k:])
                             for rows, x in slow.drawings(source, 2 * m - k)), Fraction(0))
                self.assertEqual(slow.wish_value(got[1], source), right)

    def test_layers_and_parts(self):
        for drawn, wish, c in some_wishes(2, 8):
            m, source = slow.wish_degree(wish), drawn.source(c, 2, 2)
            values = []
            for k in range(-2, m + 3):
                got, part = check_call(self, layer, wish, k), check_call(self, part_form, wish, source, k)
                if not 1 <= k <= m:
                    self.assertEqual(got, ("error", NoPlace, {"place": k}))
                else:
                    square = sum((x * part_value(wish, source, rows) ** 2
                                  for rows, x in slow.drawings(source, k)), Fraction(0))
                    self.assertTrue(is_wish(got[1], c))
                    self.assertEqual(slow.wish_value(got[1], source), square)
                    values.append(slow.pair(square))
                if not 0 <= k <= m:
                    self.assertEqual(part, ("error", NoPlace, {"place": k}))
                else:
                    self.assertTrue(is_form(part[1], k, c))
                    rows = tuple(drawn.row(c) for _ in range(k))
                    self.assertEqual(slow.value(part[1], rows), part_value(wish, source, rows))
            self.assertEqual(layers_at(wish, source), values)
            check_call(self, layers_at, wish, source)

    def test_layers_by_shared_means(self):
        for drawn, wish, c in some_wishes(3, 8):
            m = slow.wish_degree(wish)
            for k in range(1, m + 1):
                right = ()
                for j in range(k + 1):
                    right = slow.plus(right, shared_mean(wish, j), (-1) ** (k - j) * math.comb(k, j))
                self.assertEqual(layer(wish, k), right)

    def test_best_spread(self):
        for drawn, wish, c in some_wishes(4, 6):
            m, source = slow.wish_degree(wish), drawn.source(c, 2, 2)
            for n in range(5):
                shares, got = check_call(self, layer_shares, wish, n), check_call(self, best_spread, wish, n)
                if n < m:
                    self.assertEqual((shares, got), (CANNOT, CANNOT))
                    continue
                right = [Fraction(math.comb(m, k) ** 2, math.comb(n, k)) for k in range(1, m + 1)]
                self.assertEqual(shares, ("value", [slow.pair(x) for x in right]))
                form = best_program(wish, n, c)
                self.assertTrue(is_wish(got[1], c))
                self.assertEqual(slow.wish_value(got[1], source), slow.spread((((form,), UNIT),), source, n))

    def test_edges(self):
        coin = (((ZERO,), HALF), ((UNIT,), HALF))
        for wish, first in (((), ()), ((((), HALF),), (((), (1, 4)),))):
            self.assertEqual(shared_mean(wish, 0), first)
            for k in (-1, 1, HUGE):
                self.assertEqual(outcome(shared_mean, (wish, k), {}), ("error", NoPlace, {"place": k}))
            self.assertEqual(outcome(layer, (wish, 0), {}), ("error", NoPlace, {"place": 0}))
            part = part_form(wish, coin, 0)
            self.assertEqual(part, (((), HALF),) if wish else ())
            self.assertEqual((layers_at(wish, coin), layer_shares(wish, 0), best_spread(wish, 5)), ([], [], ()))
            self.assertEqual(enough_samples(wish, coin, ZERO), 0)
            self.assertEqual((own_spread(wish, 0, 1), outcome(spread_paper, (wish, 0, 1), {})), ((), CANNOT))
        self.assertEqual(layer_shares(SQUARE, 10 ** 6), [(1, 250000), (1, 499999500000)])
        self.assertEqual(best_spread(MEAN, 10 ** 6)[1], (((2,),), (1, 10 ** 6)))


class EnoughTest(unittest.TestCase):

    def test_enough_samples(self):
        for drawn, wish, c in some_wishes(5, 10):
            m, source = slow.wish_degree(wish), drawn.source(c, 3, 3)
            for most in ((1, 2), (3, 1), (1, 11), (40, 1)):
                n = m
                while slow.wish_value(best_spread(wish, n), source) > slow.exact(most) and n < 120:
                    n += 1
                if n < 120:
                    self.assertEqual(enough_samples(wish, source, most), n)
                    check_call(self, enough_samples, wish, source, most)

    def test_at_the_least_n(self):
        for drawn, wish, c in some_wishes(6, 10):
            m, source = slow.wish_degree(wish), slow.source_of_rows(drawn, c, 3, 5)
            for n in (m + 1, m + 9, 500):
                exact = slow.wish_value(best_spread(wish, n), source)
                before = slow.wish_value(best_spread(wish, n - 1), source)
                if exact == before:
                    self.assertEqual(enough_samples(wish, source, slow.pair(exact)), m)
                    continue
                self.assertEqual(enough_samples(wish, source, slow.pair(exact)), n)
                self.assertEqual(enough_samples(wish, source, slow.pair((exact + before) / 2)), n)
                self.assertEqual(enough_samples(wish, source, slow.pair(exact - Fraction(1, HUGE))), n + 1)
        self.assertEqual(enough_samples(MEAN, (((ZERO,), HALF), ((UNIT,), HALF)), (1, 4 * 10 ** 6)), 10 ** 6)
        self.assertEqual(enough_samples(MEAN, (((UNIT,), UNIT),), ZERO), 1)


class OwnTest(unittest.TestCase):

    def test_own_spread(self):
        for drawn, wish, c in some_wishes(7, 8, 2):
            m = slow.wish_degree(wish)
            for n in range(6):
                got = check_call(self, own_spread, wish, n, c)
                if n < 2 * m:
                    self.assertEqual(got, CANNOT)
                    continue
                self.assertTrue(is_form(got[1], n, c))
                self.assertEqual(slow.wish_of(got[1]), best_spread(wish, n))
                if n < 5:
                    self.assertEqual(slow.evened(got[1], n), got[1])

    def test_spread_papers(self):
        for drawn, wish, c in some_wishes(8, 6):
            m = slow.wish_degree(wish)
            for n in range(6):
                got = check_call(self, spread_paper, wish, n, c)
                if not m <= n < 2 * m:
                    self.assertEqual(got, CANNOT)
                    mix = (drawn.source(c), drawn.source(c))
                    self.assertIs(is_spread_paper(wish, n, c, mix), False)
                    continue
                mix = got[1]
                self.assertTrue(len(mix) == 2 and all(is_source(part, c) for part in mix))
                self.assertTrue(self.rises(wish, n, mix))
                self.assertIs(is_spread_paper(wish, n, c, mix), True)
                check_call(self, is_spread_paper, wish, n, c, mix)

    def test_wishes_that_hide(self):
        # Each wish has no power of t above n along all mixes that were found before.
        parts = [(k,) for k in range(1, 6)]
        coefficients, mixes = [Fraction(1)] * 5, []
        while len(mixes) < 5:
            wish = slow.from_sums(dict(zip([(own,) for own in parts], coefficients)))
            mix = spread_paper(wish, 1, 1)
            self.assertTrue(self.rises(wish, 1, mix))
            self.assertIs(is_spread_paper(wish, 1, 1, mix), True)
            self.assertNotIn(mix, mixes)
            mixes.append(mix)
            if len(mixes) < 5:
                coefficients = slow.null_line([[
                    slow.wish_value((((own,), UNIT),), mix[1]) - slow.wish_value((((own,), UNIT),), mix[0])
                    for own in parts] for mix in mixes])

    def rises(self, wish, n, mix):
        """Whether the spread has a power above n along the MIX: whether n + 1 differences leave anything."""
        spread = best_spread(wish, n)
        steps = [slow.wish_value(spread, at(mix, Fraction(k, 8))) for k in range(9)]
        for _ in range(n + 1):
            steps = [high - low for low, high in zip(steps, steps[1:])]
        return any(steps)

    def test_which_are_papers(self):
        drawn, some = slow.Drawn(9), [0, 0]
        for _, wish, c in some_wishes(10, 12):
            mix = (drawn.source(c), drawn.source(c, 1))
            mix = (mix[0], mix[0]) if drawn.number(0, 2) == 0 else mix
            m = slow.wish_degree(wish)
            for n in range(m, 2 * m):
                right = self.rises(wish, n, mix)
                self.assertIs(is_spread_paper(wish, n, c, mix), right)
                some[right] += 1
        self.assertGreater(min(some), 3)

    def test_wrong_papers(self):
        good = ((((ZERO,), UNIT),), (((UNIT,), HALF), (((2, 1),), HALF)))
        self.assertIs(is_spread_paper(MEAN, 1, 1, good), True)
        for thing in slow.spoiled(good) + list(slow.STRANGE) + [good[:1], good + good[:1], (good[0], good[0])]:
            self.assertIs(is_spread_paper(MEAN, 1, 1, thing), False, thing)
        for n in (0, 2, 3, 10 ** 6):
            self.assertIs(is_spread_paper(MEAN, n, 1, good), False)
        self.assertEqual([is_spread_paper(SQUARE, n, 1, good) for n in range(5)], [False, False, True, True, False])
        self.assertIs(is_spread_paper(MEAN, 1, 2, good), False)
        many = tuple((((k, 1),), (1, 250)) for k in range(250))
        self.assertIs(is_spread_paper(MEAN, 1, 1, (good[0], many)), True)
        self.assertIs(is_spread_paper(SPREAD, 3, 1, (((((HUGE ** 2, 7),), UNIT),), good[1])), True)
        self.assertIs(is_spread_paper(MEAN, 1, 1, (((((-1, 1),), HALF), ((UNIT,), HALF)), (((ZERO,), UNIT),))), False)


if __name__ == "__main__":
    unittest.main()
