import itertools
import unittest
from fractions import Fraction

import slow
from calls import check_call, outcome
from everysource.chances import (
    alone, chance_gap, fewest_samples, fitting_names, is_parting, law_fits, mixed, narrow_law, parting, same_chances,
    shown_law,
)
from everysource.drawings import is_law
from everysource.errors import CanNot
from everysource.forms import fits, kind_samples, number_form, plus_forms, sample_form, scaled_form, times_forms
from everysource.orbits import filled, least_name, orbit, orbit_weights
from everysource.sources import even_source, is_source

ZERO, HALF, UNIT = (0, 1), (1, 2), (1, 1)


def filled_law(teller, n, c):
    return tuple((filled(tells, n, c), weight) for tells, weight in teller)


def law_pairs(seed, many, most=3):
    """Tuples (drawn, teller, other, n, m, c): TELLERS for n and for m samples, some with the same chances."""
    drawn = slow.Drawn(seed)
    out = []
    for k in range(many):
        n, m, c, t = drawn.number(0, most), drawn.number(0, most), drawn.number(1, 2), drawn.number(1, 2)
        teller = drawn.teller(n, c, t, 3, 2)
        if k % 3 == 0:
            other, m = slow.shuffled_law(drawn, filled_law(teller, max(n, m), c), max(n, m)), max(n, m)
        elif k % 3 == 1:
            # The same tells with other weights, or one of them changed by little.
            shares = drawn.shares(len(teller))
            other, m = tuple((tells, x) for (tells, _), x in zip(teller, shares)), n
        else:
            other = drawn.teller(m, c, t, 3, 2)
        out.append((drawn, teller, other, n, m, c))
    return out


def slow_weights(teller, n, c):
    """The weights on orbits, with all samples filled up to n."""
    pairs = [(slow.orbit(filled(tells, n, c), n)[0], slow.exact(x)) for tells, x in teller]
    return slow.added(pairs)


def slow_gap(teller, other, n, m, source, told):
    one, two = slow.told(teller, source, n), slow.told(other, source, m)
    return one.get(told, Fraction(0)) - two.get(told, Fraction(0))


class SameChancesTest(unittest.TestCase):

    def test_gap(self):
        for drawn, teller, other, n, m, c in law_pairs(1, 60):
            source = drawn.source(c, 3, 2)
            one, two = slow.told(teller, source, n), slow.told(other, source, m)
            for told in list(one)[:4] + list(two)[:4]:
                gap = slow.pair(one.get(told, 0) - two.get(told, Fraction(0)))
                self.assertEqual(chance_gap(teller, other, source, told), gap)
                check_call(self, chance_gap, teller, other, source, told)
            self.assertEqual(chance_gap(teller, other, source, ((71, 3),) * len(teller[0][0])), ZERO)

    def test_same_chances(self):
        answers = []
        for drawn, teller, other, n, m, c in law_pairs(2, 120):
            same = slow_weights(teller, max(n, m), c) == slow_weights(other, max(n, m), c)
            self.assertIs(same_chances(teller, other), same)
            self.assertIs(same_chances(other, teller), same)
            answers.append(same)
            if same:
                source = drawn.source(c, 3, 2)
                self.assertEqual(slow.told(teller, source, n), slow.told(other, source, m))
            check_call(self, same_chances, teller, other)
        self.assertTrue(30 < answers.count(True) < 100)

    def test_parting(self):
        for drawn, teller, other, n, m, c in law_pairs(3, 120):
            paper = parting(teller, other)
            check_call(self, parting, teller, other)
            if same_chances(teller, other):
                self.assertIsNone(paper)
                continue
            source, told = paper
            self.assertTrue(is_source(source, c if n + m else 1))
            self.assertEqual(len({x for _, x in source}), 1)
            self.assertLessEqual(len(source), max(n, m, 1))
            self.assertNotEqual(slow_gap(teller, other, n, m, source, told), 0)
            self.assertIs(is_parting(teller, other, paper), True)
            self.assertIs(is_parting(other, teller, paper), True)
            self.assertIs(is_parting(teller, teller, paper), False)
            check_call(self, is_parting, teller, other, paper)

    def test_alike_in_small_sources(self):
        # Which of the three powers stands where is seen by three unlike ROWS alone.
        rows = [((p,), (q,), (r,)) for p, q, r in ((0, 1, 2), (1, 2, 0), (2, 0, 1))]
        turn, back = tuple(sorted((own, UNIT) for own in rows)), tuple(sorted((own[::-1], UNIT) for own in rows))
        self.assertTrue(same_chances((((turn,), UNIT),), (((back,), UNIT),)))
        one, other = (((turn, turn), UNIT),), (((turn, back), UNIT),)
        self.assertFalse(same_chances(one, other))
        paper = parting(one, other)
        self.assertTrue(is_parting(one, other, paper))
        self.assertEqual(len(paper[0]), 3)

    def test_is_parting_against_all_drawings(self):
        answers = []
        for drawn, teller, other, n, m, c in law_pairs(4, 60):
            source = drawn.source(c, 3, 1)
            for told in list(slow.told(teller, source, n))[:3]:
                right = slow_gap(teller, other, n, m, source, told) != 0
                self.assertIs(is_parting(teller, other, (source, told)), right)
                answers.append(right)
        self.assertTrue(20 < answers.count(True) < len(answers) - 20)

    def test_is_parting_wrong_things(self):
        a, b = sample_form(2, 1, 0, 0), sample_form(2, 1, 1, 0)
        one, other = (((a, a), UNIT),), (((a, b), UNIT),)
        source = even_source(((ZERO,), (UNIT,)))
        right = (source, (UNIT, ZERO))
        self.assertIs(is_parting(one, other, right), True)
        for thing in slow.spoiled(right) + list(slow.STRANGE):
            self.assertIs(is_parting(one, other, thing), False, thing)
        for thing in (
                (source, (UNIT,)), (source, (UNIT, ZERO, ZERO)), (source, ((2, 2), ZERO)), (source, ((5, 1), ZERO)),
                (source[:1], (UNIT, ZERO)), (source[::-1], (UNIT, ZERO)), (source, ()), (source,), right + (ZERO,),
                ((((UNIT, UNIT), HALF), ((ZERO, ZERO), HALF)), (UNIT, ZERO)),
                ((((ZERO,), HALF), ((UNIT,), (1, 3))), (UNIT, ZERO)), ((), (UNIT, ZERO)), (source, (HALF, HALF)),
                ((((ZERO,), HALF), (((2, 2),), HALF)), (UNIT, ZERO))):
            self.assertIs(is_parting(one, other, thing), False, thing)
        six = even_source(tuple(((k, 1),) for k in range(6)))
        seven = even_source(tuple(((k, 1),) for k in range(7)))
        self.assertIs(is_parting(one, other, (six, (UNIT, ZERO))), True)
        self.assertIs(is_parting(one, other, (seven, (UNIT, ZERO))), False)
        wide = [filled_law(teller, 7, 1) for teller in (one, other)]
        self.assertIs(is_parting(wide[0], wide[1], (seven, (UNIT, ZERO))), True)
        self.assertIs(is_parting(one, wide[1], (seven, (UNIT, ZERO))), True)
        self.assertIs(is_parting(one, other, (((((10 ** 50, 7),), HALF), (((10 ** 51, 7),), HALF)), ((10 ** 50, 7),) * 2)), True)

    def test_no_samples(self):
        bare, more = (((((), HALF),),), UNIT), (((((), UNIT),),), UNIT)
        nothing = (((),), UNIT)
        one, other, none = (bare,), (more,), (nothing,)
        self.assertEqual((same_chances(one, other), same_chances(one, one), same_chances(none, none)), (False, True, True))
        for teller, further in ((one, other), (one, none), (none, other)):
            paper = parting(teller, further)
            self.assertIs(is_parting(teller, further, paper), True)
            self.assertEqual(len(paper[0]), 1)
            for c in (1, 2, 5):
                wide = even_source((((3, 1),) * c, (ZERO,) * c))
                self.assertIs(is_parting(teller, further, (wide, paper[1])), True)
                self.assertIs(is_parting(teller, further, (wide[:1], paper[1])), False)
            self.assertIs(is_parting(teller, further, ((((), UNIT),), paper[1])), False)
        far = (((number_form(3, 2, HALF),), UNIT),)
        self.assertTrue(same_chances(one, far))
        self.assertEqual(len(parting(far, other)[0][0][0]), 2)
        self.assertEqual((fewest_samples(far), narrow_law(far)), (0, one))
        self.assertEqual((fewest_samples(none), narrow_law(none)), (0, none))

    def test_unlike_numbers_of_samples(self):
        a = sample_form(1, 1, 0, 0)
        one, wide = (((a,), UNIT),), (((sample_form(4, 1, 2, 0),), UNIT),)
        self.assertTrue(same_chances(one, wide))
        self.assertIsNone(parting(one, wide))
        self.assertEqual(chance_gap(one, wide, even_source(((ZERO,), (UNIT,))), (UNIT,)), ZERO)

    def test_many_samples(self):
        product, sums = sample_form(7, 1, 0, 0), sample_form(7, 1, 0, 0)
        for k in range(1, 7):
            product = times_forms(product, sample_form(7, 1, k, 0))
            sums = plus_forms(sums, sample_form(7, 1, k, 0))
        one, other = (((product,), UNIT),), (((scaled_form(sums, (1, 7)),), UNIT),)
        self.assertFalse(same_chances(one, other))
        self.assertTrue(is_parting(one, other, parting(one, other)))
        seven = even_source(tuple(((k, 1),) for k in range(7)))
        self.assertTrue(is_parting(one, other, (seven, (ZERO,))))
        self.assertEqual(chance_gap(other, one, seven, (ZERO,)), slow.pair(Fraction(1 - (7 ** 7 - 6 ** 7), 7 ** 7)))


class LawTest(unittest.TestCase):

    def test_fewest_samples_and_narrow_law(self):
        for drawn, teller, other, n, m, c in law_pairs(5, 60):
            fewest = max(len(slow.hung(tells)) for tells, _ in teller)
            self.assertEqual(fewest_samples(teller), fewest)
            narrow = narrow_law(teller)
            self.assertTrue(is_law(narrow, fewest, c))
            self.assertTrue(same_chances(teller, narrow))
            self.assertEqual(orbit_weights(narrow), narrow)
            self.assertEqual(slow_weights(narrow, n, c), slow_weights(teller, n, c))
            check_call(self, fewest_samples, teller)
            check_call(self, narrow_law, teller)

    def test_alone(self):
        drawn = slow.Drawn(6)
        for _ in range(20):
            n, c = drawn.number(0, 2), drawn.number(1, 2)
            teller = drawn.teller(n, c, 3, 3, 1)
            for many in (1, 2, 3):
                for places in itertools.permutations(range(3), many):
                    pairs = [(tuple(tells[k] for k in places), slow.exact(x)) for tells, x in teller]
                    self.assertEqual(alone(teller, places), slow.from_sums(slow.added(pairs)))
                    check_call(self, alone, teller, places)
        a, b = sample_form(2, 1, 0, 0), sample_form(2, 1, 1, 0)
        self.assertEqual(alone((((b, a), HALF), ((b, b), HALF)), (0,)), (((b,), UNIT),))

    def test_mixed(self):
        for drawn, teller, other, n, m, c in law_pairs(7, 40):
            for share in (ZERO, UNIT, HALF, (2, 7)):
                wide = [(filled(tells, max(n, m), c), (1 - slow.exact(share)) * slow.exact(x)) for tells, x in teller]
                wide += [(filled(tells, max(n, m), c), slow.exact(share) * slow.exact(x)) for tells, x in other]
                law = mixed(teller, other, share)
                if any(form for tells, _ in teller + other for form in tells):
                    self.assertEqual(law, slow.from_sums({k: x for k, x in slow.added(wide).items() if x}))
                self.assertTrue(is_law(law, max(n, m), c))
                check_call(self, mixed, teller, other, share)

    def test_law_fits(self):
        drawn = slow.Drawn(8)
        kinds = (((0,), 1), ((0, 1), 1))
        for _ in range(40):
            teller = drawn.teller(drawn.choice([2, 2, 2, 1, 3]), 2, 2, 2, 1)
            right = all(fits(form, kinds) for tells, _ in teller for form in tells)
            self.assertIs(law_fits(teller, kinds), right)
            check_call(self, law_fits, teller, kinds)

    def test_fitting_names_and_shown_law(self):
        drawn = slow.Drawn(9)
        counts = [0, 0, 0]
        for _ in range(120):
            kinds = drawn.choice([
                (((0,), 1), ((0, 1), 1)), (((0, 1), 2),), (((0,), 2), ((1,), 1)), (((0,), 1), ((0, 1), 1), ((1,), 1))])
            shown = kind_samples(kinds)
            teller = drawn.teller(drawn.number(0, 4), 2, drawn.number(1, 2), 2, 2)
            least = []
            for tells, weight in teller:
                kept = slow.hung(tells)
                small = tuple(tuple((tuple(own[i] for i in kept), x) for own, x in form) for form in tells)
                names = ()
                if len(kept) <= len(shown):
                    members = slow.orbit(filled(small, len(shown), 2), len(shown))
                    names = tuple(own for own in members if all(fits(form, kinds) for form in own))
                else:
                    counts[2] += 1
                self.assertEqual(fitting_names(tells, kinds, 2), names)
                check_call(self, fitting_names, tells, kinds, 2)
                least.append((names[0] if names else None, slow.exact(weight)))
            got = check_call(self, shown_law, teller, kinds, 2)
            if any(name is None for name, _ in least):
                self.assertEqual(got[1], CanNot)
                counts[0] += 1
            else:
                self.assertEqual(got, ("value", slow.from_sums(slow.added(least))))
                self.assertTrue(law_fits(got[1], kinds))
                self.assertTrue(same_chances(got[1], teller))
                counts[1] += 1
        self.assertTrue(min(counts) > 5, counts)

    def test_fitting_edges(self):
        kinds = (((0,), 1), ((0, 1), 1))
        self.assertEqual(fitting_names(((),), kinds, 2), (((),),))
        half = number_form(5, 2, HALF)
        self.assertEqual(fitting_names((half,), kinds, 2), ((number_form(2, 2, HALF),),))
        far = sample_form(5, 2, 4, 0)
        self.assertEqual(fitting_names((far,), kinds, 2), tuple(sorted(((sample_form(2, 2, k, 0),) for k in (0, 1)))))
        three = times_forms(times_forms(sample_form(3, 2, 0, 0), sample_form(3, 2, 1, 0)), sample_form(3, 2, 2, 0))
        self.assertEqual(fitting_names((three,), kinds, 2), ())
        # Two names of one orbit are one, with their weights added.
        x, y = sample_form(2, 2, 0, 0), sample_form(2, 2, 1, 0)
        law = shown_law((((y,), (1, 3)), ((x,), (2, 3))), kinds, 2)
        self.assertEqual(law, ((least_name((x,)), UNIT),))
        self.assertEqual(outcome(shown_law, ((((three,), UNIT),), kinds, 2), {})[1], CanNot)
        self.assertEqual(len(orbit((x,))), 2)


if __name__ == "__main__":
    unittest.main()
