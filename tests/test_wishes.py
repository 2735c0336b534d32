import itertools
import math
import unittest

import slow
from calls import check_call, outcome
from everysource.errors import NoPlace, Unfit
from everysource.forms import number_form, sample_form, scaled_form
from everysource.wishes import (
    central, cumulant, is_moment, is_right, is_wish, joined_moment, joint_spread, law_wish, made_wish, wish_columns,
    wish_degree, wish_less, wish_moments, wish_of, wish_plus, wish_renamed, wish_scaled, wish_times, wish_value,
)

ZERO, HALF, UNIT = (0, 1), (1, 2), (1, 1)
HUGE = 10 ** 30 + 57


def drawn_wishes(seed, many):
    drawn = slow.Drawn(seed)
    return [(drawn, drawn.wish(c), c) for _ in range(many) for c in (1, 2, 3)]


class ThingTest(unittest.TestCase):

    def test_is_moment(self):
        for thing, c, right in (
                ((1,), 1, True), ((0,), 1, False), ((0, 3), 2, True), ((0, 0, 0), 3, False), ((), 0, False),
                ((10 ** 60, 0), 2, True), ((-1, 2), 2, False), ((1, 2), 1, False), ((1, 2), 3, False),
                ((0,) * 99 + (1,), 100, True)):
            self.assertIs(is_moment(thing, c), right, thing)
        for thing in slow.spoiled((1, 0)) + [own for own in slow.STRANGE if own != (10 ** 40,)]:
            self.assertIs(is_moment(thing, 2), False, thing)
        check_call(self, is_moment, (1, 0), 2)

    def test_is_wish(self):
        for drawn, wish, c in drawn_wishes(1, 15):
            self.assertIs(is_wish(wish, c), True)
            self.assertIs(is_wish(wish, c + 1), all(factors == () for factors, _ in wish))
            check_call(self, is_wish, wish, c)
        for wish, c in (
                (((((0, 1), (0, 1), (2, 0)), HALF), (((1, 0),), (-3, 1))), 2), ((((), UNIT), (((3,),), (1, 7))), 1)):
            self.assertIs(is_wish(wish, c), True)
            for thing in slow.spoiled(wish):
                self.assertIs(is_wish(thing, c), False, thing)
        for thing in slow.STRANGE:
            self.assertIs(is_wish(thing, 2), thing == () and isinstance(thing, tuple) or thing == (((), (1, 1)),))

    def test_is_wish_order(self):
        one, two = (1,), (2,)
        for wish, right in (
                ((((one, two), UNIT),), True), ((((two, one), UNIT),), False), ((((one, one), UNIT),), True),
                ((((one,), UNIT), ((one, one), UNIT), ((two,), UNIT)), True), ((((two,), UNIT), ((one,), UNIT)), False),
                ((((one,), UNIT), ((one,), HALF)), False), ((((one,), ZERO),), False), ((((one,), (2, 2)),), False),
                (((((0,),), UNIT),), False), ((((one, (0,)), UNIT),), False), ((((1,), UNIT),), False),
                ((((), UNIT), ((), HALF)), False), ((((one,), UNIT), ((), UNIT)), False), ((((one,), (1, -1)),), False),
                (((((-1,),), UNIT),), False), ((((one, two),),), False), ((((one,), UNIT, UNIT),), False)):
            self.assertIs(is_wish(wish, 1), right, wish)
        many = tuple((((k,),) * 9, (1, k)) for k in range(1, 500))
        self.assertIs(is_wish(many, 1), True)
        self.assertIs(is_wish(many[::-1], 1), False)
        self.assertIs(is_wish((((), (10 ** 50, 10 ** 50 + 1)),), 10 ** 40), True)


class ReckoningTest(unittest.TestCase):

    def test_made_wish(self):
        drawn = slow.Drawn(2)
        for _ in range(60):
            c = drawn.number(1, 3)
            pairs = tuple((tuple(drawn.moment(c, 1) for _ in range(drawn.number(0, 3))), drawn.fraction())
                          for _ in range(drawn.number(0, 6)))
            right = slow.from_sums(slow.added([(tuple(sorted(factors)), slow.exact(x)) for factors, x in pairs]))
            self.assertEqual(made_wish(pairs), right)
            self.assertTrue(is_wish(right, c))
            check_call(self, made_wish, pairs)
        self.assertEqual((made_wish(()), made_wish((((), ZERO),))), ((), ()))

    def test_values(self):
        for drawn, wish, c in drawn_wishes(3, 15):
            other, x, source = drawn.wish(c), drawn.fraction(), drawn.source(c, 3)
            one, two = slow.wish_value(wish, source), slow.wish_value(other, source)
            self.assertEqual(wish_value(wish, source), slow.pair(one))
            for made, worth in (
                    (wish_plus(wish, other), one + two), (wish_less(wish, other), one - two),
                    (wish_times(wish, other), one * two), (wish_scaled(wish, x), slow.exact(x) * one)):
                self.assertTrue(is_wish(made, c))
                self.assertEqual(slow.wish_value(made, source), worth)
            self.assertEqual(wish_times(wish, other), wish_times(other, wish))
            for call in (wish_plus, wish_less, wish_times):
                check_call(self, call, wish, other)
            check_call(self, wish_scaled, wish, x)
            check_call(self, wish_value, wish, source)

    def test_what_leaves_nothing(self):
        for drawn, wish, c in drawn_wishes(4, 5):
            self.assertEqual((wish_less(wish, wish), wish_scaled(wish, ZERO)), ((), ()))
            self.assertEqual((wish_times(wish, ()), wish_times((), wish)), ((), ()))
            self.assertEqual((wish_plus(wish, ()), wish_plus((), wish), wish_less(wish, ())), (wish,) * 3)
            self.assertEqual(wish_times(wish, (((), UNIT),)), wish)
            self.assertEqual(wish_less((), wish), wish_scaled(wish, (-1, 1)))
        mean = ((((1,),), UNIT),)
        self.assertEqual(wish_times(mean, mean), ((((1,), (1,)), UNIT),))
        self.assertEqual(wish_value((), (((ZERO,), UNIT),)), ZERO)
        self.assertEqual(wish_value((((), HALF),), (((ZERO,), UNIT),)), HALF)

    def test_what_is_in_a_wish(self):
        for drawn, wish, c in drawn_wishes(5, 15):
            moments = sorted({own for factors, _ in wish for own in factors})
            self.assertEqual(wish_degree(wish), max((len(factors) for factors, _ in wish), default=0))
            self.assertEqual(wish_moments(wish), tuple(moments))
            self.assertEqual(wish_columns(wish), tuple(k for k in range(c) if any(own[k] for own in moments)))
            for call in (wish_degree, wish_moments, wish_columns):
                check_call(self, call, wish)
        for wish in ((), (((), HALF),)):
            self.assertEqual((wish_degree(wish), wish_moments(wish), wish_columns(wish)), (0, (), ()))

    def test_great_numbers(self):
        wish = ((((8,), (8,)), (HUGE, HUGE + 1)), (((8, ), (9,)), (-1, HUGE)))
        source = ((((-HUGE, 7),), (1, HUGE)), (((HUGE, 11),), (HUGE - 1, HUGE)))
        square = wish_times(wish, wish)
        self.assertEqual(wish_value(square, source), slow.pair(slow.wish_value(wish, source) ** 2))
        self.assertEqual(wish_value(wish_times(square, square), source), slow.pair(slow.wish_value(wish, source) ** 4))


class RenamedTest(unittest.TestCase):

    def test_renamed(self):
        for drawn, wish, c in drawn_wishes(6, 10):
            for order in itertools.permutations(range(c)):
                pairs = []
                for factors, x in wish:
                    moved = []
                    for own in factors:
                        out = [0] * c
                        for k in range(c):
                            out[order[k]] = own[k]
                        moved.append(tuple(out))
                    pairs.append((tuple(sorted(moved)), slow.exact(x)))
                self.assertEqual(wish_renamed(wish, order), slow.from_sums(slow.added(pairs)))
                check_call(self, wish_renamed, wish, order)
        self.assertEqual(wish_renamed(((((1, 2, 3),), UNIT),), (1, 2, 0)), ((((3, 1, 2),), UNIT),))

    def test_unfit(self):
        wish = ((((1, 0),), UNIT),)
        for order in ((), (0,), (0, 0), (1, 2), (0, 1, 2), (-1, 0), (0, 2), (1, 1)):
            with self.assertRaises(Unfit):
                wish_renamed(wish, order)
            check_call(self, wish_renamed, wish, order)
        for idle in ((), (((), HALF),)):
            for order in ((), (0,), (1, 0), (2, 0, 1)):
                self.assertEqual(wish_renamed(idle, order), idle)
            for order in ((1,), (0, 0), (0, 2), (-1, 0)):
                with self.assertRaises(Unfit):
                    wish_renamed(idle, order)


class MomentTest(unittest.TestCase):

    def test_joined(self):
        drawn = slow.Drawn(7)
        for _ in range(30):
            c = drawn.number(1, 3)
            moment, other, source = drawn.moment(c), drawn.moment(c), drawn.source(c)
            self.assertEqual(joined_moment(moment, other), tuple(moment[k] + other[k] for k in range(c)))
            mean = [sum(slow.exact(x) * slow.monomial(row, own) for row, x in source) for own in (moment, other)]
            both = sum(slow.exact(x) * slow.monomial(row, moment) * slow.monomial(row, other) for row, x in source)
            wish = joint_spread(moment, other)
            self.assertTrue(is_wish(wish, c))
            self.assertEqual(slow.wish_value(wish, source), both - mean[0] * mean[1])
            check_call(self, joined_moment, moment, other)
            check_call(self, joint_spread, moment, other)

    def test_central(self):
        drawn = slow.Drawn(8)
        for many in range(6):
            for _ in range(8):
                c = drawn.number(1, 2)
                moment, source = drawn.moment(c, 2), drawn.source(c, 4)
                wish = central(moment, many)
                mean = sum(slow.exact(x) * slow.monomial(row, moment) for row, x in source)
                off = sum(slow.exact(x) * (slow.monomial(row, moment) - mean) ** many for row, x in source)
                self.assertTrue(is_wish(wish, c))
                self.assertEqual(slow.wish_value(wish, source), off)
                check_call(self, central, moment, many)
        self.assertEqual((central((1,), 0), central((1,), 1)), ((((), UNIT),), ()))
        self.assertEqual(central((2, 1), 2), ((((2, 1), (2, 1)), (-1, 1)), (((4, 2),), UNIT)))

    def test_cumulant(self):
        drawn = slow.Drawn(9)
        for _ in range(10):
            c = drawn.number(1, 2)
            moment, source = drawn.moment(c, 2), drawn.source(c, 4)
            raw = [sum(slow.exact(x) * slow.monomial(row, moment) ** k for row, x in source) for k in range(6)]
            own = {}
            for k in range(1, 6):
                own[k] = raw[k] - sum(math.comb(k - 1, j - 1) * own[j] * raw[k - j] for j in range(1, k))
                wish = cumulant(moment, k)
                self.assertTrue(is_wish(wish, c))
                self.assertEqual(slow.wish_value(wish, source), own[k])
                check_call(self, cumulant, moment, k)
        self.assertEqual(cumulant((3,), 1), ((((3,),), UNIT),))
        for k in (2, 3):
            self.assertEqual(cumulant((1, 2), k), central((1, 2), k))
        square = wish_times(central((1,), 2), central((1,), 2))
        self.assertEqual(cumulant((1,), 4), wish_less(central((1,), 4), wish_scaled(square, (3, 1))))


class WishOfTest(unittest.TestCase):

    def test_wish_of(self):
        drawn = slow.Drawn(10)
        for _ in range(30):
            n, c = drawn.number(0, 3), drawn.number(1, 3)
            form, source = drawn.form(n, c, 4), drawn.source(c, 3, 2)
            wish = wish_of(form)
            self.assertTrue(is_wish(wish, c))
            self.assertEqual(slow.wish_value(wish, source), slow.mean(form, source, n))
            self.assertLessEqual(wish_degree(wish), len(slow.hung((form,))))
            self.assertEqual(wish_of(slow.renamed(form, drawn.order(n))), wish)
            check_call(self, wish_of, form)
        less = ((((0,), (1,)), (-1, 1)), (((1,), (0,)), UNIT))
        self.assertEqual((wish_of(()), wish_of((((), HALF),)), wish_of(less)), ((), (((), HALF),), ()))
        self.assertEqual(wish_of(number_form(3, 1, HALF)), (((), HALF),))

    def test_law_wish(self):
        drawn = slow.Drawn(11)
        for _ in range(20):
            n, c, t = drawn.number(0, 2), drawn.number(1, 2), drawn.number(1, 3)
            teller, source = drawn.teller(n, c, t), drawn.source(c, 3, 2)
            table = slow.told(teller, source, n)
            for place in range(t):
                wish = law_wish(teller, place)
                self.assertTrue(is_wish(wish, c))
                mean = sum(x * slow.exact(told[place]) for told, x in table.items())
                self.assertEqual(slow.wish_value(wish, source), mean)
                check_call(self, law_wish, teller, place)
            for place in (-1, t, t + 5, -t, 10 ** 30):
                self.assertEqual(outcome(law_wish, (teller, place), {}), ("error", NoPlace, {"place": place}))
                check_call(self, law_wish, teller, place)

    def test_is_right(self):
        drawn = slow.Drawn(12)
        for _ in range(30):
            n, c = drawn.number(0, 3), drawn.number(1, 2)
            teller = drawn.teller(n, c, 1)
            wish, other = law_wish(teller, 0), drawn.wish(c)
            self.assertIs(is_right(teller, wish), True)
            self.assertIs(is_right(teller, other), wish == other)
            self.assertIs(is_right(teller, wish_plus(wish, (((), HALF),))), False)
            check_call(self, is_right, teller, wish)
            check_call(self, is_right, teller, other)
        a, b = sample_form(2, 1, 0, 0), sample_form(2, 1, 1, 0)
        gone = (((scaled_form(b, (-1, 1)),), HALF), ((a,), HALF))
        self.assertTrue(is_right(gone, ()))


if __name__ == "__main__":
    unittest.main()
