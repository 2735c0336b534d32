import itertools
import unittest
from fractions import Fraction

import slow
from calls import check_call, outcome
from everysource.errors import CanNot, NoPlace
from everysource.forms import fits, is_form, is_kinds
from everysource.seats import (
    can_tell, even_form, fewest_kinds, first_lacking, is_lacking_lot, is_right_form, is_seating, lacking_lot,
    least_kinds, most_seated, needless_samples, part_told, right_form, seating, seatings, showing, shown_by,
)
from everysource.wishes import wish_plus

ZERO, HALF, UNIT = (0, 1), (1, 2), (1, 1)
X, Y, XY = (1, 0), (0, 1), (1, 1)
HUGE = 10 ** 30 + 57
NONE = ("error", CanNot, {})


def drawn_factors(drawn, c, most=4):
    return tuple(sorted(drawn.moment(c, 1) for _ in range(drawn.number(0, most))))


def slow_seatings(shown, factors):
    ways = itertools.permutations(range(len(shown)), len(factors))
    return [way for way in ways if all(slow.shows(shown[k], own) for k, own in zip(way, factors))]


def slow_lacks(shown, factors, lot):
    held = [k for k, seen in enumerate(shown) if any(slow.shows(seen, factors[place]) for place in lot)]
    return len(held) < len(lot)


def slow_lots(factors):
    places = range(len(factors))
    return [lot for size in range(1, len(factors) + 1) for lot in itertools.combinations(places, size)]


def slow_can_tell(shown, wish):
    return all(slow_seatings(shown, factors) for factors, _ in wish)


def cases(seed, many):
    drawn = slow.Drawn(seed)
    for _ in range(many):
        for c in (1, 2, 3):
            yield drawn, c, slow.kinds_of(drawn, c)


class ShownTest(unittest.TestCase):

    def test_shown_by(self):
        for drawn, c, kinds in cases(1, 10):
            shown = slow.shown_by(kinds)
            for sample in range(-2, len(shown) + 2):
                got = check_call(self, shown_by, kinds, sample)
                if 0 <= sample < len(shown):
                    self.assertEqual(got, ("value", shown[sample]))
                else:
                    self.assertEqual(got, ("error", NoPlace, {"place": sample}))
            moment = drawn.moment(c, 2)
            right = tuple(k for k, seen in enumerate(shown) if slow.shows(seen, moment))
            self.assertEqual(showing(kinds, moment), right)
            check_call(self, showing, kinds, moment)
        self.assertEqual(outcome(shown_by, ((((0,), 2),), HUGE), {}), ("error", NoPlace, {"place": HUGE}))


class SeatingTest(unittest.TestCase):

    def test_seatings(self):
        some = none = 0
        for drawn, c, kinds in cases(2, 40):
            shown, factors = slow.shown_by(kinds), drawn_factors(drawn, c)
            right = slow_seatings(shown, factors)
            self.assertEqual(seatings(kinds, factors), right)
            check_call(self, seatings, kinds, factors)
            got = check_call(self, seating, kinds, factors)
            lot = check_call(self, lacking_lot, kinds, factors)
            lots = [own for own in slow_lots(factors) if slow_lacks(shown, factors, own)]
            if right:
                self.assertEqual((got, lot, lots), (("value", right[0]), NONE, []))
                some += 1
            else:
                least = min(lots, key=lambda own: (len(own), own))
                self.assertEqual((got, lot), (NONE, ("value", least)))
                none += 1
            self.check_things(kinds, factors, right, lots, len(shown))
        self.assertGreater(min(some, none), 20)

    def check_things(self, kinds, factors, right, lots, n):
        many = len(factors)
        for thing in itertools.product(range(-1, n + 1), repeat=min(many, 3)):
            self.assertIs(is_seating(kinds, factors, thing), thing in right)
        for thing in itertools.chain(slow_lots(factors), itertools.product(range(-1, many + 1), repeat=2)):
            self.assertIs(is_lacking_lot(kinds, factors, thing), thing in lots)

    def test_most_seated(self):
        for drawn, c, kinds in cases(3, 25):
            shown, factors = slow.shown_by(kinds), drawn_factors(drawn, c, 5)
            right = max(size for size in range(len(factors) + 1) if any(
                slow_seatings(shown, part) for part in itertools.combinations(factors, size)))
            self.assertEqual(most_seated(kinds, factors), right)
            check_call(self, most_seated, kinds, factors)

    def test_things(self):
        kinds, factors = (((0,), 1), ((0, 1), 2)), (Y, Y, X)
        self.assertIs(is_seating(kinds, factors, (2, 1, 0)), True)
        check_call(self, is_seating, kinds, factors, (2, 1, 0))
        for thing in slow.spoiled((2, 1, 0)) + list(slow.STRANGE) + [(1, 1, 0), (0, 1, 2), (1, 2), (1, 2, 0, 3)]:
            self.assertIs(is_seating(kinds, factors, thing), False, thing)
        self.assertIs(is_seating(kinds, (X, Y), (True, 2)), False)
        self.assertIs(is_lacking_lot(kinds, (Y, Y, Y), (0, 1, 2)), True)
        check_call(self, is_lacking_lot, kinds, (Y, Y, Y), (0, 1, 2))
        for thing in slow.spoiled((0, 1, 2)) + list(slow.STRANGE) + [(0, 2, 1), (0, 1), (0, 0, 1), (0, 1, 3), ()]:
            self.assertIs(is_lacking_lot(kinds, (Y, Y, Y), thing), thing == [1, 2, 3], thing)

    def test_no_factors_and_many(self):
        kinds = (((0,), 1),)
        self.assertEqual((seating(kinds, ()), seatings(kinds, ()), most_seated(kinds, ())), ((), [()], 0))
        self.assertIs(is_seating(kinds, (), ()), True)
        self.assertIs(is_seating(kinds, (), []), False)
        self.assertIs(is_lacking_lot(kinds, (), ()), False)
        self.assertEqual(outcome(lacking_lot, (kinds, ()), {}), NONE)
        wide = (((0,), 40), ((0, 1), 3))
        factors = (Y,) * 3 + (X,) * 5
        self.assertEqual(seating(wide, factors), (40, 41, 42, 0, 1, 2, 3, 4))
        self.assertEqual(most_seated(wide, (Y,) * 7), 3)
        self.assertEqual(lacking_lot(wide, (Y,) * 5), (0, 1, 2, 3))
        self.assertIs(is_seating(wide, factors, (42, 41, 40, 39, 0, 1, 2, 3)), True)
        self.assertEqual(showing((((0,), 2), ((1, 2), 1)), (0, HUGE, HUGE)), (2,))
        crowd, lot = ((0, HUGE),) * 90, tuple(range(1, 90, 2))
        self.assertIs(is_lacking_lot(wide, crowd, lot), True)
        self.assertIs(is_lacking_lot(wide, crowd, lot + (90,)), False)
        self.assertIs(is_lacking_lot((((0, 1), 45),), crowd, lot), False)
        self.assertIs(is_seating((((0, 1), 90),), crowd, tuple(range(89, -1, -1))), True)
        self.assertIs(is_seating((((0, 1), 90),), crowd, tuple(range(89)) + (5,)), False)


class TellTest(unittest.TestCase):

    def test_can_tell(self):
        told = 0
        for drawn, c, kinds in cases(4, 40):
            shown, wish = slow.shown_by(kinds), drawn.wish(c, 3, 3)
            right = slow_can_tell(shown, wish)
            told += right
            self.assertIs(can_tell(kinds, wish), right)
            check_call(self, can_tell, kinds, wish)
            lacking = [place for place, (factors, _) in enumerate(wish) if not slow_seatings(shown, factors)]
            got = check_call(self, first_lacking, kinds, wish)
            if right:
                self.assertEqual(got, NONE)
            else:
                self.assertEqual(got, ("value", (lacking[0], lacking_lot(kinds, wish[lacking[0]][0]))))
            part = tuple(pair for place, pair in enumerate(wish) if place not in lacking)
            self.assertEqual(part_told(kinds, wish), part)
            check_call(self, part_told, kinds, wish)
        self.assertGreater(min(told, 120 - told), 20)

    def test_forms(self):
        for drawn, c, kinds in cases(5, 40):
            shown, wish = slow.shown_by(kinds), drawn.wish(c, 3, 3)
            forms = [check_call(self, call, kinds, wish) for call in (right_form, even_form)]
            if not slow_can_tell(shown, wish):
                self.assertEqual(forms, [NONE, NONE])
                continue
            moments = [own for factors, _ in wish for own in factors]
            width = c if moments else 1 + max(max(seen) for seen in shown)
            for _, form in forms:
                self.assertTrue(is_form(form, len(shown), width))
                self.assertTrue(fits(form, kinds))
                self.assertEqual(slow.wish_of(form), wish)
                self.assertIs(is_right_form(kinds, wish, form), True)
                check_call(self, is_right_form, kinds, wish, form)
            pairs = []
            for factors, x in wish:
                ways = slow_seatings(shown, factors)
                for way in ways:
                    powers = [(0,) * width] * len(shown)
                    for sample, own in zip(way, factors):
                        powers[sample] = own
                    pairs.append((tuple(powers), slow.exact(x) / len(ways)))
            self.assertEqual(forms[1][1], slow.from_sums(slow.added(pairs)))
            source = drawn.source(width, 2, 2)
            self.assertEqual(slow.mean(forms[0][1], source, len(shown)), slow.wish_value(wish, source))

    def test_is_right_form(self):
        kinds, wish = (((0,), 1), ((0, 1), 1)), (((Y, X), UNIT),)
        good = (((X, Y), UNIT),)
        self.assertIs(is_right_form(kinds, wish, good), True)
        for thing in slow.spoiled(good) + list(slow.STRANGE):
            self.assertIs(is_right_form(kinds, wish, thing), False, thing)
        for thing in (
                (((Y, X), UNIT),), (((X, Y), HALF),), (((X, Y, (0, 0)), UNIT),), ((((1,), (1,)), UNIT),), (),
                ((((0, 0), XY), UNIT),), ((((0, 0), X), UNIT), ((X, Y), UNIT)), ((((0, 0), (0, 0)), UNIT), ((X, Y), UNIT))):
            self.assertIs(is_right_form(kinds, wish, thing), False, thing)
        for thing in (
                ((((0, 0), X), (-1, 1)), ((X, (0, 0)), UNIT), ((X, Y), UNIT)),
                ((((0, 0), (HUGE, 0)), (HUGE, 7)), ((X, Y), UNIT), (((HUGE, 0), (0, 0)), (-HUGE, 7)))):
            self.assertIs(is_right_form(kinds, wish, tuple(sorted(thing))), True, thing)

    def test_columns_that_no_sample_shows(self):
        kinds, wish = (((0,), 2),), ((((1, 0, 0),), UNIT),)
        none, first = (0, 0, 0), (1, 0, 0)
        self.assertEqual(even_form(kinds, wish), (((none, first), HALF), ((first, none), HALF)))
        self.assertEqual(right_form(kinds, wish), (((first, none), UNIT),))
        self.assertIs(is_right_form(kinds, wish, (((none, first), UNIT),)), True)
        self.assertIs(is_right_form(kinds, wish, ((((0,), (1,)), UNIT),)), False)

    def test_wishes_without_moments(self):
        for wish, form in (((), ()), ((((), HALF),), ((((0, 0), (0, 0)), HALF),))):
            kinds = (((0,), 1), ((1,), 1))
            self.assertEqual((right_form(kinds, wish), even_form(kinds, wish)), (form, form))
            self.assertIs(is_right_form(kinds, wish, form), True)
            nought = (((X, (0, 0)), UNIT), ((X, Y), (-1, 1)))
            self.assertIs(is_right_form(kinds, wish, tuple(sorted(slow.plus(form, nought)))), False)
            kinds = (((0,), 2),)
            gone = ((((0,), (1,)), UNIT), (((1,), (0,)), (-1, 1)))
            self.assertIs(is_right_form(kinds, wish, slow.plus(gone, ((((0,), (0,)), HALF),) if wish else ())), True)
            self.assertIs(is_right_form(kinds, wish, ((((0, 0), (0, 0)), HALF),)), False)
            self.assertEqual(needless_samples(kinds, wish), (0, 1))

    def test_needless(self):
        for drawn, c, kinds in cases(6, 30):
            shown, wish = slow.shown_by(kinds), drawn.wish(c, 2, 2)
            got = check_call(self, needless_samples, kinds, wish)
            if not slow_can_tell(shown, wish):
                self.assertEqual(got, NONE)
                continue
            right = tuple(k for k in range(len(shown)) if slow_can_tell(shown[:k] + shown[k + 1:], wish))
            self.assertEqual(got, ("value", right))


class KindsTest(unittest.TestCase):

    def slow_least(self, seens, wish, most):
        """All KINDS with at most so many samples that tell, but not with one taken away."""
        out = []
        for counts in itertools.product(range(most + 1), repeat=len(seens)):
            if sum(counts) > most:
                continue
            shown = [seen for seen, k in zip(seens, counts) for _ in range(k)]
            if slow_can_tell(shown, wish):
                if not any(slow_can_tell(shown[:k] + shown[k + 1:], wish) for k in range(len(shown))):
                    out.append(tuple((seen, k) for seen, k in zip(seens, counts) if k))
        return sorted(out)

    def test_least_kinds(self):
        drawn, many = slow.Drawn(7), 0
        for _ in range(60):
            c = drawn.number(1, 3)
            options = [tuple(k for k in range(c) if bits >> k & 1) for bits in range(1, 2 ** c)]
            seens = tuple(sorted({drawn.choice(options) for _ in range(drawn.number(1, 9))}))[:4]
            wish = slow.from_sums({drawn_factors(drawn, c, 2): Fraction(1, k) for k in range(1, drawn.number(2, 3))})
            # Two pairs of two factors need four samples at the most.
            right = self.slow_least(seens, wish, 4)
            self.assertEqual(least_kinds(seens, wish), right)
            check_call(self, least_kinds, seens, wish)
            fewest = min(right, key=lambda own: (sum(k for _, k in own), own), default=None)
            self.assertEqual(fewest_kinds(seens, wish), fewest)
            check_call(self, fewest_kinds, seens, wish)
            for kinds in right:
                self.assertTrue(kinds == () or is_kinds(kinds, c))
            many += len(right) > 1
        self.assertGreater(many, 5)

    def test_edges(self):
        seens = ((0,), (0, 1))
        for wish in ((), (((), HALF),)):
            self.assertEqual((least_kinds(seens, wish), fewest_kinds(seens, wish)), ([()], ()))
        self.assertEqual((least_kinds(((0,),), (((Y,), UNIT),)), fewest_kinds(((0,),), (((Y,), UNIT),))), ([], None))
        wish = (((Y,) * 5, UNIT), ((X,) * 5, UNIT))
        self.assertEqual(least_kinds(((0,), (1,)), wish), [(((0,), 5), ((1,), 5))])
        self.assertEqual(fewest_kinds(((0,), (0, 1), (1,)), wish), (((0, 1), 5),))
        self.assertEqual(len(least_kinds(((0,), (0, 1), (1,)), wish)), 6)
        three = ((((0, 0, 1),), UNIT), (((0, 1, 0),), UNIT), (((1, 0, 0),), UNIT))
        self.assertEqual(fewest_kinds(((0,), (1,), (2,)), three), (((0,), 1), ((1,), 1), ((2,), 1)))
        self.assertEqual(fewest_kinds(((0, 1), (0, 2), (1, 2)), three), (((0, 1), 1), ((0, 2), 1)))
        # What comes out may be passed in again, though it has more samples than KINDS otherwise have.
        kinds = least_kinds(((0,), (1,)), wish)[0]
        self.assertEqual((can_tell(kinds, wish), needless_samples(kinds, wish)), (True, ()))
        self.assertEqual(seating(kinds, (Y,) * 5), (5, 6, 7, 8, 9))
        self.assertIs(is_right_form(kinds, wish, right_form(kinds, wish)), True)

    def test_sums_of_wishes(self):
        # What two wishes need, their sum needs too, if no pair goes.
        drawn = slow.Drawn(8)
        for _ in range(20):
            one, other = drawn.wish(2), drawn.wish(2)
            both = wish_plus(one, other)
            for kinds in least_kinds(((0,), (0, 1), (1,)), both):
                shown = slow.shown_by(kinds)
                self.assertTrue(slow_can_tell(shown, both))
                self.assertEqual(needless_samples(kinds, both) if kinds else (), ())


if __name__ == "__main__":
    unittest.main()
