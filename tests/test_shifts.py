import itertools
import unittest
from fractions import Fraction

import slow
from calls import check_call, outcome
from everysource.errors import CanNot, Unfit
from everysource.shifts import (
    alike_in, blind_shift, corner_mix, feeling, form_powers, is_mix_of, is_shift, joined_mix, moves, shift, unshown,
    wish_powers,
)
from everysource.sources import is_source

ZERO, HALF, UNIT = (0, 1), (1, 2), (1, 1)
X, Y, XY = (1, 0), (0, 1), (1, 1)
HUGE = 10 ** 30 + 57
NONE = ("error", CanNot, {})


def at(mix, t):
    """The SOURCE of a MIX at t, a Fraction from 0 to 1."""
    pairs = [(row, (1 - t) * slow.exact(x)) for row, x in mix[0]] + [(row, t * slow.exact(x)) for row, x in mix[1]]
    return slow.ranked({row: x for row, x in slow.added(pairs).items() if x != 0})


def worth(powers, t):
    return sum((slow.exact(x) * t ** k for k, x in enumerate(powers)), Fraction(0))


def shown_chances(source, seen):
    return slow.added([(tuple(row[k] for k in seen), slow.exact(x)) for row, x in source])


def slow_feeling(kinds, mix):
    return tuple(k for k, seen in enumerate(slow.shown_by(kinds))
                 if shown_chances(mix[0], seen) != shown_chances(mix[1], seen))


def seated(shown, factors):
    return any(all(slow.shows(shown[k], own) for k, own in zip(way, factors))
               for way in itertools.permutations(range(len(shown)), len(factors)))


def drawn_mix(drawn, c):
    """A MIX, often one that not all samples feel."""
    kind = drawn.number(0, 3)
    if kind == 0:
        return (drawn.source(c), drawn.source(c))
    low, high = drawn.row(c), tuple(slow.pair(slow.exact(x) + 1) for x in drawn.row(c, 2))
    seen = tuple(k for k in range(c) if drawn.number(0, 1)) or (0,)
    if any(low[k] == high[k] for k in seen):
        return (drawn.source(c, 1),) * 2
    mix = corner_mix(low, high, seen)
    return mix if kind < 3 else (at((mix[0], drawn.source(c)), Fraction(1, 3)), at((mix[1], mix[0]), Fraction(1, 3)))


class MixTest(unittest.TestCase):

    def test_is_mix_of(self):
        drawn = slow.Drawn(1)
        for _ in range(20):
            c = drawn.number(1, 3)
            mix = (drawn.source(c), drawn.source(c))
            self.assertIs(is_mix_of(mix, c), True)
            self.assertIs(is_mix_of(mix, c + 1), False)
            check_call(self, is_mix_of, mix, c)
        good = ((((ZERO, UNIT), HALF), ((UNIT, ZERO), HALF)), (((ZERO, ZERO), UNIT),))
        for thing in slow.spoiled(good) + list(slow.STRANGE) + [good[0], good + good, good[:1], good[1:], ()]:
            self.assertIs(is_mix_of(thing, 2), False, thing)
        self.assertIs(is_mix_of((good[0], good[0]), 2), True)
        self.assertIs(is_mix_of((good[0][::-1], good[1]), 2), False)
        self.assertIs(is_mix_of((good[1], good[0][:1]), 2), False)
        many = tuple((((k, 1), ZERO), (1, 400)) for k in range(400))
        self.assertIs(is_mix_of((many, good[1]), 2), True)
        self.assertIs(is_mix_of((good[1], ((((HUGE ** 9, HUGE ** 9 - 1), ZERO), UNIT),)), 2), True)

    def test_feeling(self):
        drawn, felt = slow.Drawn(2), 0
        for _ in range(60):
            c = drawn.number(1, 3)
            mix, kinds = drawn_mix(drawn, c), slow.kinds_of(drawn, c)
            right = slow_feeling(kinds, mix)
            self.assertEqual(feeling(kinds, mix), right)
            check_call(self, feeling, kinds, mix)
            felt += 0 < len(right) < len(slow.shown_by(kinds))
            for size in range(1, c + 1):
                for seen in itertools.combinations(range(c), size):
                    alike = shown_chances(mix[0], seen) == shown_chances(mix[1], seen)
                    self.assertIs(alike_in(mix[0], mix[1], seen), alike)
                    check_call(self, alike_in, mix[0], mix[1], seen)
        self.assertGreater(felt, 5)

    def test_powers(self):
        drawn = slow.Drawn(3)
        for _ in range(50):
            c = drawn.number(1, 3)
            mix, wish = drawn_mix(drawn, c), drawn.wish(c, 3, 3)
            n = drawn.number(0, 3)
            form = drawn.form(n, c)
            for call, thing, target in ((wish_powers, wish, wish), (form_powers, form, slow.wish_of(form))):
                got = check_call(self, call, mix, thing)[1]
                self.assertTrue(got == () or got[-1] != ZERO)
                self.assertTrue(all(slow.pair(slow.exact(x)) == x for x in got))
                self.assertLessEqual(len(got), slow.wish_degree(target) + 1)
                for t in (Fraction(0), Fraction(1), Fraction(1, 2), Fraction(1, 3), Fraction(4, 5)):
                    self.assertEqual(worth(got, t), slow.wish_value(target, at(mix, t)))
            moments = tuple(drawn.moment(c) for _ in range(drawn.number(0, 3)))
            right = []
            for moment in moments:
                own = [sum(slow.exact(x) * slow.monomial(row, moment) for row, x in source) for source in mix]
                right.append(slow.pair(own[1] - own[0]))
            self.assertEqual(moves(mix, moments), right)
            check_call(self, moves, mix, moments)

    def test_form_powers_by_drawings(self):
        drawn = slow.Drawn(4)
        for _ in range(15):
            mix, form = drawn_mix(drawn, 2), drawn.form(2, 2)
            got = form_powers(mix, form)
            for t in (Fraction(0), Fraction(1), Fraction(2, 3)):
                self.assertEqual(worth(got, t), slow.mean(form, at(mix, t), 2))

    def test_edges_of_powers(self):
        coin = (((ZERO, ZERO), HALF), ((UNIT, UNIT), HALF))
        wish = (((), (3, 2)), ((X, Y), UNIT))
        self.assertEqual(wish_powers((coin, coin), wish), ((7, 4),))
        self.assertEqual((wish_powers((coin, coin), ()), form_powers((coin, coin), ())), ((), ()))
        self.assertEqual(wish_powers((coin, coin), (((), (-1, 4)), ((X, Y), UNIT))), ())
        self.assertEqual(form_powers((coin, coin), (((), HALF),)), (HALF,))
        self.assertEqual((moves((coin, coin), (X, XY)), moves((coin, coin), ())), ([ZERO, ZERO], []))
        level = ((((ZERO, ZERO), UNIT),), (((UNIT, ZERO), UNIT),))
        self.assertEqual(wish_powers(level, ((((1, 0),) * 5, UNIT), (((1, 1),), (7, 1)))), (ZERO,) * 5 + (UNIT,))
        great = (((((HUGE, 3),), UNIT),), ((((-HUGE, 1),), UNIT),))
        self.assertEqual(len(wish_powers(great, ((((8,),) * 5, UNIT),))), 6)


class MadeMixTest(unittest.TestCase):

    def test_corner_mix(self):
        drawn = slow.Drawn(5)
        for _ in range(40):
            c = drawn.number(1, 3)
            low, high = drawn.row(c), drawn.row(c)
            seen = tuple(k for k in range(c) if drawn.number(0, 2)) or (0,)
            got = check_call(self, corner_mix, low, high, seen)
            if any(low[k] == high[k] for k in seen):
                self.assertEqual(got, ("error", Unfit, {}))
                continue
            sides = ([], [])
            for size in range(len(seen) + 1):
                for part in itertools.combinations(seen, size):
                    sides[size % 2].append(tuple(high[k] if k in part else low[k] for k in range(c)))
            right = tuple(slow.ranked({row: Fraction(1, len(rows)) for row in rows}) for rows in sides)
            self.assertEqual(got, ("value", right))
            for kinds in ((((0,), 1),), tuple((own, 1) for own in ((0,), (0, 1), (0, 1, 2)) if max(own) < c)):
                felt = tuple(k for k, own in enumerate(slow.shown_by(kinds)) if set(seen) <= set(own))
                self.assertEqual(feeling(kinds, got[1]), felt)
        self.assertEqual(corner_mix((ZERO,), (UNIT,), (0,)), ((((ZERO,), UNIT),), (((UNIT,), UNIT),)))
        self.assertEqual(outcome(corner_mix, ((ZERO, UNIT), (UNIT, UNIT), (0, 1)), {}), ("error", Unfit, {}))
        self.assertEqual(outcome(corner_mix, ((ZERO, UNIT), (UNIT, UNIT), (0,)), {})[0], "value")

    def test_joined_mix(self):
        drawn = slow.Drawn(6)
        for _ in range(30):
            c, many = drawn.number(1, 2), drawn.number(1, 3)
            mixes, weights = tuple(drawn_mix(drawn, c) for _ in range(many)), tuple(drawn.shares(many))
            right = []
            for side in (0, 1):
                pairs = [(row, slow.exact(x) * slow.exact(weight)) for mix, weight in zip(mixes, weights)
                         for row, x in mix[side]]
                right.append(slow.ranked(slow.added(pairs)))
            self.assertEqual(joined_mix(mixes, weights), tuple(right))
            self.assertTrue(is_mix_of(tuple(right), c))
            check_call(self, joined_mix, mixes, weights)
            self.assertEqual(joined_mix((mixes[0],), (UNIT,)), mixes[0])


class ShiftTest(unittest.TestCase):

    def test_shift(self):
        drawn, found, blinds = slow.Drawn(7), 0, 0
        for _ in range(90):
            c = drawn.number(1, 3)
            kinds, wish = slow.kinds_of(drawn, c), drawn.wish(c, 3, 3)
            shown = slow.shown_by(kinds)
            got = check_call(self, shift, kinds, wish)
            if all(seated(shown, factors) for factors, _ in wish):
                self.assertEqual(got, NONE)
            else:
                self.check_shift(kinds, wish, got[1], c)
                found += 1
            moments = sorted({own for factors, _ in wish for own in factors})
            gone = tuple(own for own in moments if not any(slow.shows(seen, own) for seen in shown))
            self.assertEqual(unshown(kinds, wish), gone)
            check_call(self, unshown, kinds, wish)
            got = check_call(self, blind_shift, kinds, wish)
            if gone == ():
                self.assertEqual(got, NONE)
            else:
                self.check_blind(kinds, wish, got[1], c)
                blinds += 1
        self.assertGreater(min(found, 90 - found, blinds, found - blinds), 5)

    def check_shift(self, kinds, wish, mix, c):
        self.assertTrue(all(is_source(part, c) for part in mix) and len(mix) == 2)
        felt = slow_feeling(kinds, mix)
        # So many differences leave 0 of a polynomial with no higher power.
        steps = [slow.wish_value(wish, at(mix, Fraction(k, 9))) for k in range(9)]
        for _ in range(len(felt) + 1):
            steps = [high - low for low, high in zip(steps, steps[1:])]
        self.assertNotEqual(set(steps), {0})
        self.assertIs(is_shift(kinds, wish, mix), True)
        check_call(self, is_shift, kinds, wish, mix)

    def check_blind(self, kinds, wish, mix, c):
        self.assertTrue(all(is_source(part, c) for part in mix) and len(mix) == 2)
        self.assertEqual(slow_feeling(kinds, mix), ())
        self.assertNotEqual(slow.wish_value(wish, mix[0]), slow.wish_value(wish, mix[1]))

    def test_pairs_that_go_together(self):
        # Along simple mixes what is lacked may stay hidden behind other pairs.
        kinds = (((0,), 1), ((1,), 1))
        for wish in (
                (((X, X), UNIT), ((X, Y), (-2, 1)), ((Y, Y), UNIT)), (((X, X), (-1, 1)), (((2, 0),), UNIT)),
                ((((0, 2), (2, 0)), UNIT), ((XY, XY), (-1, 1))), ((((1, 2),), UNIT), (((2, 1),), (-1, 1))),
                (((Y, XY), UNIT), ((X, XY), (-1, 1))), (((X, X, X), UNIT), ((X, (2, 0)), (-3, 1)), (((3, 0),), (2, 1)))):
            self.check_shift(kinds, tuple(sorted(wish)), shift(kinds, tuple(sorted(wish))), 2)
        wish = ((((0, 0, 1), (1, 1, 0)), UNIT), (((0, 1, 0), (1, 0, 1)), (-1, 1)), (((1, 1, 1),), (HUGE, 3)))
        for kinds in ((((0, 1), 1), ((2,), 1)), (((0, 1), 2), ((0, 2), 2)), (((0, 1), 1), ((0, 2), 1), ((1, 2), 1))):
            self.check_shift(kinds, wish, shift(kinds, wish), 3)
            self.check_blind(kinds, wish, blind_shift(kinds, wish), 3)

    def test_wishes_that_hide(self):
        # Each wish is made such that it comes to nothing along all mixes that were found before.
        lone = (((0,), 1),)
        for kinds, parts, power in (
                (lone, [((0, k),) for k in (1, 2, 3, 4, 5)], 1), ((((0, 1), 1),), [(Y, X), (X, X), (Y, Y), (Y, XY)], 2)):
            parts, mixes, coefficients = sorted(parts), [], [Fraction(1)] * len(parts)
            while len(mixes) < len(parts):
                wish = tuple((factors, slow.pair(x)) for factors, x in zip(parts, coefficients) if x != 0)
                mix = shift(kinds, wish)
                self.check_shift(kinds, wish, mix, 2)
                self.assertNotIn(mix, mixes)
                mixes.append(mix)
                if len(mixes) < len(parts):
                    coefficients = slow.null_line([self.at_power(own, parts, power) for own in mixes])

    def at_power(self, mix, parts, power):
        """What stands at this power of t for each of some products."""
        out = []
        for factors in parts:
            powers = wish_powers(mix, ((factors, UNIT),))
            out.append(slow.exact(powers[power]) if len(powers) > power else Fraction(0))
        return out

    def test_wishes_that_hide_in_blind_mixes(self):
        for parts in ([((0, k),) for k in (1, 2, 3, 4, 5)], [((1, 0), (k, 1)) for k in (1, 2, 3, 4)], [(Y, XY), (XY, XY), (Y, Y)]):
            parts, mixes, coefficients = sorted(tuple(sorted(own)) for own in parts), [], None
            coefficients = [Fraction(1)] * len(parts)
            while len(mixes) < len(parts):
                wish = tuple((factors, slow.pair(x)) for factors, x in zip(parts, coefficients) if x != 0)
                mix = blind_shift((((0,), 1),), wish)
                self.check_blind((((0,), 1),), wish, mix, 2)
                self.assertNotIn(mix, mixes)
                mixes.append(mix)
                if len(mixes) < len(parts):
                    coefficients = slow.null_line([[
                        slow.wish_value(((own, UNIT),), mix[1]) - slow.wish_value(((own, UNIT),), mix[0])
                        for own in parts] for mix in mixes])

    def test_is_shift(self):
        drawn, some = slow.Drawn(8), 0
        for _ in range(120):
            c = drawn.number(1, 2)
            mix, kinds, wish = drawn_mix(drawn, c), slow.kinds_of(drawn, c, 2), drawn.wish(c, 3, 3)
            right = len(wish_powers(mix, wish)) - 1 > len(slow_feeling(kinds, mix))
            self.assertIs(is_shift(kinds, wish, mix), right)
            check_call(self, is_shift, kinds, wish, mix)
            some += right
            if right:
                self.assertFalse(all(seated(slow.shown_by(kinds), factors) for factors, _ in wish))
        self.assertGreater(some, 5)

    def test_wrong_shifts(self):
        kinds, wish = (((0, 1), 1),), (((Y, X), UNIT),)
        good = ((((ZERO, ZERO), HALF), ((ZERO, UNIT), HALF)), (((UNIT, ZERO), HALF), ((UNIT, (3, 1)), HALF)))
        self.assertIs(is_shift(kinds, wish, good), True)
        for thing in slow.spoiled(good) + list(slow.STRANGE) + [good[:1], good + good[:1]]:
            self.assertIs(is_shift(kinds, wish, thing), False, thing)
        self.assertIs(is_shift(kinds, wish, (good[0], good[0])), False)
        for idle in ((), (((), UNIT),)):
            self.assertIs(is_shift(kinds, idle, good), False)
            self.assertEqual((outcome(shift, (kinds, idle), {}), outcome(blind_shift, (kinds, idle), {})), (NONE, NONE))
            self.assertEqual(unshown(kinds, idle), ())
        three = ((((ZERO,) * 3, UNIT),), (((UNIT,) * 3, UNIT),))
        self.assertIs(is_shift(kinds, wish, three), False)
        many = tuple((((k, 1), slow.pair(Fraction(k, HUGE))), (1, 300)) for k in range(300))
        self.assertIs(is_shift(kinds, wish, (good[0], many)), True)


if __name__ == "__main__":
    unittest.main()
