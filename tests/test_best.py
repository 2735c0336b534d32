import itertools
import unittest
from fractions import Fraction

import slow
from calls import check_call, outcome
from everysource.best import (
    beats, best_mix, best_program, dice_excess, dice_mean, excess, joint_wish, spread_wish, worse_source,
)
from everysource.errors import CanNot, Unfit
from everysource.forms import is_form
from everysource.sources import is_source
from everysource.wishes import is_wish

ZERO, HALF, UNIT = (0, 1), (1, 2), (1, 1)
HUGE = 10 ** 30 + 57


def alone(form):
    return (((form,), UNIT),)


def square_mean(form, source, n):
    return sum((x * slow.value(form, rows) ** 2 for rows, x in slow.drawings(source, n)), Fraction(0))


class SpreadTest(unittest.TestCase):

    def test_spreads(self):
        drawn = slow.Drawn(1)
        for _ in range(50):
            n, c = drawn.number(0, 3), drawn.number(1, 2)
            form, other, source = drawn.form(n, c), drawn.form(n, c), drawn.source(c, 3, 2)
            made = [spread_wish(form), joint_wish(form, other), excess(form)]
            self.assertTrue(all(is_wish(wish, c) for wish in made))
            off = slow.plus(form, slow.evened(form, n), -1)
            right = [
                slow.spread(alone(form), source, n), slow.mean(slow.times(form, other), source, n),
                square_mean(off, source, n)]
            self.assertEqual([slow.wish_value(wish, source) for wish in made], right)
            self.assertEqual(excess(slow.evened(form, n)), ())
            # The spread is that of evened(form) and the excess.
            parts = slow.plus(spread_wish(slow.evened(form, n)), excess(form))
            self.assertEqual(parts, spread_wish(form))
            check_call(self, spread_wish, form)
            check_call(self, excess, form)
            check_call(self, joint_wish, form, other)
            self.assertEqual(joint_wish(form, other), joint_wish(other, form))

    def test_even_forms(self):
        drawn = slow.Drawn(9)
        for _ in range(40):
            n, c = drawn.number(1, 3), drawn.number(1, 2)
            form, even, source = drawn.form(n, c, 4), slow.evened(drawn.form(n, c), n), drawn.source(c, 3, 2)
            right = slow.wish_of(slow.times(form, even))
            self.assertEqual((joint_wish(form, even), joint_wish(even, form)), (right, right))
            self.assertEqual(slow.wish_value(spread_wish(even), source), slow.spread(alone(even), source, n))
        # Of 2520 names each, which nobody multiplies out.
        wide = best_program(((((1,), (2,), (3,), (4,), (5,)), UNIT),), 7, 1)
        square, source = spread_wish(wide), (((ZERO,), HALF), ((UNIT,), HALF))
        once = Fraction(sum(Fraction(1, 2 ** len(set(range(5)) | set(way)))
                            for way in itertools.permutations(range(7), 5)), 2520)
        self.assertEqual(slow.wish_value(square, source), once - Fraction(1, 2 ** 10))
        self.assertEqual(excess(wide), ())
        self.assertIs(beats(wide, wide[:1], source), False)

    def test_edges_of_spreads(self):
        number = ((((0,), (0,)), (HUGE, 7)),)
        for form in ((), (((), HALF),), number):
            self.assertEqual((spread_wish(form), excess(form)), ((), ()))
        self.assertEqual(joint_wish(number, ((((0,), (0,)), (7, HUGE)),)), (((), UNIT),))
        self.assertEqual((joint_wish((), number), joint_wish(number, ())), ((), ()))
        seven = ((tuple((k,) for k in range(7)), (HUGE, 3)),)
        self.assertEqual(len(excess(((((1,),) + ((0,),) * 6, UNIT),))), 2)
        self.assertEqual(slow.wish_value(excess(seven), (((UNIT,), HALF), (((2, 1),), HALF))) > 0, True)
        alike = tuple((tuple((1,) if k == place else (0,) for k in range(7)), (1, 7)) for place in range(6, -1, -1))
        self.assertEqual(excess(alike), ())


class BestTest(unittest.TestCase):

    def test_best_program(self):
        drawn = slow.Drawn(2)
        for _ in range(40):
            c = drawn.number(1, 3)
            wish = drawn.wish(c, 3, 3)
            degree = slow.wish_degree(wish)
            for n in range(5):
                got = check_call(self, best_program, wish, n, c)
                if n < degree:
                    self.assertEqual(got, ("error", CanNot, {}))
                    continue
                form = got[1]
                self.assertTrue(is_form(form, n, c))
                self.assertEqual(slow.wish_of(form), wish)
                self.assertEqual(slow.evened(form, n), form)
        self.assertEqual(best_program((((), HALF),), 0, 3), (((), HALF),))
        self.assertEqual((best_program((), 0, 1), best_program((), 5, 1)), ((), ()))
        self.assertEqual(best_program((((), HALF),), 2, 1), ((((0,), (0,)), HALF),))
        self.assertEqual(len(best_program(((((1,), (2,), (3,), (4,), (5,)), UNIT),), 7, 1)), 2520)
        self.assertEqual(best_program(((((1,),) * 5, (HUGE, 2)),), 5, 1), ((((1,),) * 5, (HUGE, 2)),))

    def test_least_spread(self):
        # No right FORM has less spread in any SOURCE than the best one.
        drawn = slow.Drawn(3)
        for _ in range(30):
            n, c = drawn.number(1, 3), drawn.number(1, 2)
            form, source = drawn.form(n, c), drawn.source(c, 3, 2)
            even = best_program(slow.wish_of(form), n, c)
            self.assertEqual(even, slow.evened(form, n))
            spreads = [slow.spread(alone(own), source, n) for own in (form, even)]
            self.assertGreaterEqual(spreads[0], spreads[1])
            self.assertIs(beats(even, form, source), spreads[0] > spreads[1])
            self.assertIs(beats(form, even, source), False)

    def test_beats(self):
        drawn, some = slow.Drawn(4), 0
        for _ in range(60):
            n, c = drawn.number(0, 3), drawn.number(1, 2)
            form, source = drawn.form(n, c), slow.source_of_rows(drawn, c, 2, 3)
            others = [drawn.form(n, c), slow.renamed(form, drawn.order(n)), slow.evened(form, n)]
            nought = drawn.form(n, c)
            nought = slow.plus(nought, slow.renamed(nought, drawn.order(n)), -1)
            others.append(slow.plus(form, nought))
            for other in others:
                same = slow.wish_of(form) == slow.wish_of(other)
                right = same and slow.spread(alone(form), source, n) < slow.spread(alone(other), source, n)
                self.assertIs(beats(form, other, source), right)
                check_call(self, beats, form, other, source)
                some += right
        self.assertGreater(some, 5)

    def test_worse_source(self):
        drawn, some = slow.Drawn(5), 0
        for _ in range(60):
            n, c = drawn.number(0, 4), drawn.number(1, 2)
            form = drawn.form(n, c)
            got = check_call(self, worse_source, form)
            if slow.evened(form, n) == form:
                self.assertEqual(got, ("error", CanNot, {}))
                continue
            some += 1
            source = got[1]
            self.assertTrue(is_source(source, c))
            self.assertLessEqual(len(source), n)
            self.assertGreater(
                slow.spread(alone(form), source, n), slow.spread(alone(slow.evened(form, n)), source, n))
        self.assertGreater(some, 20)
        for form in ((), (((), HALF),), ((((1,),), HALF),), ((((2,), (2,)), UNIT),)):
            self.assertEqual(outcome(worse_source, (form,), {}), ("error", CanNot, {}))

    def test_worse_source_where_small_rows_are_alike(self):
        # y (y - low) (y - high) comes to 0 at both of the small numbers.
        off = ((((0,), (1,)), (-6, 1)), (((1,), (0,)), (6, 1)))
        for low, high in ((2, 3), (1, 2), (3, 5)):
            form = ((((0,), (1,)), (low * high, 1)), (((0,), (2,)), (-low - high, 1)), (((0,), (3,)), UNIT))
            source = worse_source(form)
            self.assertEqual(len(source), 2)
            self.assertGreater(
                slow.spread(alone(form), source, 2), slow.spread(alone(slow.evened(form, 2)), source, 2))
        self.assertEqual(len(worse_source(off)), 2)


class MixTest(unittest.TestCase):

    def test_best_mix(self):
        drawn, zeros = slow.Drawn(6), 0
        for _ in range(60):
            n, c = drawn.number(2, 3), drawn.number(1, 2)
            form, source = drawn.form(n, c, 5), slow.source_of_rows(drawn, c, 3, 3)
            nought = drawn.form(n, c, 4)
            nought = slow.plus(nought, slow.renamed(nought, drawn.order(n)), -1)
            other = slow.plus(form, nought, Fraction(2, 3))
            got = slow.exact(check_call(self, best_mix, form, other, source)[1])
            self.check(form, other, source, n, got)
            zeros += got == 0
        self.assertGreater(60 - zeros, 10)

    def check(self, form, other, source, n, got):
        def spread_at(share):
            joint = slow.plus(slow.plus((), form, 1 - share), other, share)
            return slow.spread(alone(joint), source, n)
        if len({spread_at(Fraction(k)) for k in (0, 1, 2)}) == 1:
            self.assertEqual(got, 0)
            return
        # A square of the share: it has one least place, where both sides rise alike.
        self.assertEqual(spread_at(got - 1), spread_at(got + 1))
        for step in (Fraction(1, 7), Fraction(-1, 7), Fraction(3), Fraction(-3)):
            self.assertLess(spread_at(got), spread_at(got + step))

    def test_unfit(self):
        first, second = ((((1,), (0,)), UNIT),), ((((0,), (1,)), UNIT),)
        coin = (((ZERO,), HALF), ((UNIT,), HALF))
        self.assertEqual(best_mix(first, first, coin), ZERO)
        self.assertEqual(best_mix(first, second, (((UNIT,), UNIT),)), ZERO)
        self.assertEqual(best_mix((), (), coin), ZERO)
        for other in ((), ((((0,), (1,)), (2, 1)),), ((((0,), (2,)), UNIT),), ((((1,), (1,)), UNIT),)):
            got = check_call(self, best_mix, first, other, coin)
            self.assertEqual(got, ("error", Unfit, {}))
        third = ((((0,), (1,)), (-2, 1)), (((1,), (0,)), (3, 1)))
        self.assertEqual([best_mix(first, third, coin), best_mix(third, first, coin)], [(-1, 4), (5, 4)])


class DiceTest(unittest.TestCase):

    def test_dice(self):
        drawn = slow.Drawn(7)
        for _ in range(50):
            n, c = drawn.number(0, 3), drawn.number(1, 2)
            teller, source = drawn.teller(n, c, 1, 3), drawn.source(c, 3, 2)
            mean, more = dice_mean(teller), dice_excess(teller)
            self.assertTrue(is_form(mean, n, c))
            self.assertTrue(is_wish(more, c))
            rows = tuple(drawn.row(c) for _ in range(n))
            right = sum((slow.exact(weight) * slow.value(tells[0], rows) for tells, weight in teller), Fraction(0))
            self.assertEqual(slow.value(mean, rows), right)
            gap = slow.spread(teller, source, n) - slow.spread(alone(mean), source, n)
            self.assertEqual(slow.wish_value(more, source), gap)
            check_call(self, dice_mean, teller)
            check_call(self, dice_excess, teller)

    def test_edges_of_dice(self):
        form = ((((1,), (2,)), (HUGE, 3)),)
        self.assertEqual((dice_mean(alone(form)), dice_excess(alone(form))), (form, ()))
        self.assertEqual((dice_mean(alone(())), dice_excess(alone(()))), ((), ()))
        gone = ((((((1,),), (-1, 1)),),), HALF), ((((((1,),), UNIT),),), HALF)
        self.assertEqual((dice_mean(gone), dice_excess(gone)), ((), ((((2,),), UNIT),)))

    def test_more_than_one_tell(self):
        drawn = slow.Drawn(8)
        for t in (2, 3, 4):
            teller = drawn.teller(2, 1, t)
            for call in (dice_mean, dice_excess):
                self.assertEqual(check_call(self, call, teller), ("error", Unfit, {}))


if __name__ == "__main__":
    unittest.main()
