import itertools
import unittest
from fractions import Fraction

import slow
from calls import check_call, outcome
from everysource.apart import (
    apart_lots, are_apart, bond, drawn_anew, is_bond, is_samples_paper, samples_paper, signed_count,
)
from everysource.chances import alone, fewest_samples, same_chances
from everysource.drawings import is_law
from everysource.errors import NoPlace, TooMuch, Unfit
from everysource.forms import number_form, plus_forms, sample_form, times_forms
from everysource.orbits import filled
from everysource.sources import even_source, is_source

ZERO, HALF, UNIT = (0, 1), (1, 2), (1, 1)

def two_lots(t):
    """All pairs of lots, not (), of places without one in common."""
    out = []
    for marks in itertools.product((0, 1, 2), repeat=t):
        lot, others = (tuple(k for k in range(t) if marks[k] == mark) for mark in (1, 2))
        if lot and others:
            out.append((lot, others))
    return out


def slow_anew(teller, lot, others, c):
    pairs = []
    for tells, x in teller:
        for further, y in teller:
            own, more = [tells[k] for k in lot], [further[k] for k in others]
            front, behind = slow.hung(own), slow.hung(more)
            pairs.append((own, front, more, behind, slow.exact(x) * slow.exact(y)))
    n = max(len(front) + len(behind) for _, front, _, behind, _ in pairs)
    none = (0,) * c
    out = []
    for own, front, more, behind, weight in pairs:
        rest = (none,) * (n - len(front) - len(behind))
        tells = []
        for form in own:
            tells.append(tuple((tuple(p[i] for i in front) + (none,) * len(behind) + rest, x) for p, x in form))
        for form in more:
            tells.append(tuple(((none,) * len(front) + tuple(p[i] for i in behind) + rest, x) for p, x in form))
        out.append((tuple(tells), weight))
    return slow.from_sums(slow.added(out))


def slow_apart_at(teller, source, n, lot, others):
    return slow.independent(slow.told(teller, source, n), lot, others)


def laws(seed, many, t=2, most=3):
    """Tuples (drawn, teller, n, c), some of them with tells that are apart."""
    drawn = slow.Drawn(seed)
    out = []
    for k in range(many):
        n, c = drawn.number(0, most), drawn.number(1, 2)
        if k % 3 == 0 and n:
            out.append((drawn, apart_law(drawn, n, c, t), n, c))
        elif k % 3 == 1:
            out.append((drawn, drawn.teller(n, c, t, 2, 1), n, c))
        else:
            teller = drawn.teller(n, c, t, 1, 2)
            out.append((drawn, slow.shuffled_law(drawn, teller, n), n, c))
    return out


def apart_law(drawn, n, c, t):
    """A TELLER with tells of their own samples each, thrown for each by itself, then renamed."""
    pairs = [((), Fraction(1))]
    for _ in range(t):
        sample = drawn.number(0, n - 1)
        options = [(drawn.form(1, c, 1), slow.exact(x)) for x in drawn.shares(drawn.number(1, 2))]
        wide = []
        for form, x in options:
            none = ((0,) * c,)
            wide.append((tuple((none * sample + own + none * (n - 1 - sample), y) for own, y in form), x))
        pairs = [(tells + (form,), x * y) for tells, x in pairs for form, y in wide]
    return slow.shuffled_law(drawn, slow.from_sums(slow.added(pairs)), n)


class AnewTest(unittest.TestCase):

    def test_drawn_anew(self):
        for t in (2, 3):
            for drawn, teller, n, c in laws(1 + t, 25, t):
                for lot, others in two_lots(t):
                    anew = drawn_anew(teller, lot, others)
                    self.assertEqual(anew, slow_anew(teller, lot, others, c))
                    check_call(self, drawn_anew, teller, lot, others)
                source = drawn.source(c, 2, 2)
                table, many = slow.told(teller, source, n), len(lot)
                both = slow.added([
                    (tuple(told[k] for k in lot) + tuple(far[k] for k in others), x * y)
                    for told, x in table.items() for far, y in table.items()])
                samples = max([len(form[0][0]) for tells, _ in anew for form in tells if form], default=0)
                self.assertTrue(is_law(anew, samples, c))
                self.assertEqual(slow.told(anew, source, samples), both)
                self.assertLess(many, t)

    def test_many_samples(self):
        # It is made, too, where all else is too much.
        product = (((1,),) * 6, UNIT)
        teller = ((((product,), (product,)), UNIT),)
        anew = drawn_anew(teller, (0,), (1,))
        none = ((0,),) * 6
        front, behind = (((product[0] + none), UNIT),), (((none + product[0]), UNIT),)
        self.assertEqual(anew, (((front, behind), UNIT),))
        with self.assertRaises(TooMuch):
            are_apart(teller, (0,), (1,))


class ApartTest(unittest.TestCase):

    def test_without_dice(self):
        drawn = slow.Drawn(10)
        answers = []
        for _ in range(40):
            n, c, t = drawn.number(0, 5), drawn.number(1, 2), 3
            tells = drawn.tells(n, c, t, 1)
            for lot, others in two_lots(t):
                own, more = slow.hung([tells[k] for k in lot]), slow.hung([tells[k] for k in others])
                apart = not set(own) & set(more)
                self.assertIs(are_apart(((tells, UNIT),), lot, others), apart)
                answers.append(apart)
            check_call(self, are_apart, ((tells, UNIT),), (0,), (1, 2))
        self.assertTrue(50 < answers.count(True) < len(answers) - 25, answers.count(True))

    def test_with_dice(self):
        answers = []
        for drawn, teller, n, c in laws(11, 90, 2):
            apart = are_apart(teller, (0,), (1,))
            anew = slow_anew(teller, (0,), (1,), c)
            wide = max([n] + [len(form[0][0]) for tells, _ in anew for form in tells if form])
            weights = []
            for law in (teller, anew):
                pairs = [(filled(tells, wide, c), slow.exact(x)) for tells, x in law]
                weights.append(slow.added([(slow.orbit(tells, wide)[0], x) for tells, x in pairs]) if wide < 6 else law)
            if wide < 6:
                self.assertIs(apart, weights[0] == weights[1])
            self.assertIs(are_apart(teller, (1,), (0,)), apart)
            source = drawn.source(c, 3, 3)
            if apart:
                self.assertTrue(slow_apart_at(teller, source, n, (0,), (1,)))
            answers.append(apart)
            check_call(self, are_apart, teller, (0,), (1,))
        self.assertTrue(20 < answers.count(True) < 80, answers.count(True))

    def test_apart_lots(self):
        sizes = set()
        for t in (1, 2, 3, 4):
            for drawn, teller, n, c in laws(12 + t, 20, t, 4):
                lots = apart_lots(teller)
                self.assertEqual(sorted(k for lot in lots for k in lot), list(range(t)))
                self.assertEqual(lots, sorted(tuple(sorted(lot)) for lot in lots))
                # Two places are in one lot exactly if no way in two apart parts them.
                splits = [(lot, others) for lot, others in two_lots(t) if len(lot + others) == t]
                splits = [(lot, others) for lot, others in splits if are_apart(teller, lot, others)]
                for i in range(t):
                    for j in range(t):
                        parted = any(i in lot and j in others for lot, others in splits)
                        self.assertIs(any(i in lot and j in lot for lot in lots), not parted or i == j)
                check_call(self, apart_lots, teller)
                sizes.add((t, len(lots)))
                source = drawn.source(c, 2, 2)
                table = slow.told(teller, source, n) if n < 4 else {}
                for told, x in table.items():
                    chance = Fraction(1)
                    for lot in lots:
                        chance *= sum(y for far, y in table.items() if all(far[k] == told[k] for k in lot))
                    self.assertEqual(chance, x)
        self.assertTrue({(1, 1), (2, 1), (2, 2), (3, 1), (3, 2), (3, 3), (4, 1), (4, 4)} <= sizes, sizes)

    def test_order_of_lots(self):
        a, b, d = (sample_form(3, 1, k, 0) for k in range(3))
        for tells, lots in (
                ((a, b, b, d), [(0,), (1, 2), (3,)]), ((a, b, d, a), [(0, 3), (1,), (2,)]),
                ((a, b, a, b), [(0, 2), (1, 3)]), ((b, a, (), plus_forms(a, d)), [(0,), (1, 3), (2,)])):
            self.assertEqual(apart_lots(((tells, UNIT),)), lots)

    def test_pairs_apart_but_not_all(self):
        # Of three signs each two are apart, but the third is the product of the others.
        signs = [(1, 1), (-1, 1)]
        pairs = []
        for x, y in itertools.product(signs, signs):
            pairs.append((tuple(number_form(1, 1, z) for z in (x, y, (x[0] * y[0], 1))), (1, 4)))
        teller = tuple(sorted(pairs))
        for one, other in ((0, 1), (0, 2), (1, 2)):
            self.assertTrue(are_apart(teller, (one,), (other,)))
        self.assertFalse(are_apart(teller, (0, 1), (2,)))
        self.assertEqual(apart_lots(teller), [(0, 1, 2)])

    def test_edges(self):
        idle = (number_form(2, 1, HALF), (), sample_form(2, 1, 0, 0))
        self.assertEqual(apart_lots(((idle, UNIT),)), [(0,), (1,), (2,)])
        self.assertTrue(are_apart(((((), ()), UNIT),), (0,), (1,)))
        self.assertIsNone(bond(((((), ()), UNIT),), (0,), (1,)))

    def test_no_samples(self):
        # Dice alone, that throw one number for both: the columns are not known, and any will do.
        bare = ((((((), UNIT),), (((), HALF),)), HALF), (((((), (2, 1)),), (((), (3, 1)),)), HALF))
        self.assertTrue(is_law(bare, 0, 1))
        self.assertFalse(are_apart(bare, (0,), (1,)))
        self.assertEqual(apart_lots(bare), [(0, 1)])
        paper = bond(bare, (0,), (1,))
        self.assertTrue(is_source(paper[0], 1))
        self.assertTrue(is_bond(bare, (0,), (1,), paper))
        for c in (1, 2, 5):
            wide = even_source(((ZERO,) * c, (UNIT,) * c))
            self.assertIs(is_bond(bare, (0,), (1,), (wide,) + paper[1:]), True)
            self.assertIs(is_bond(bare, (0,), (1,), (wide[::-1],) + paper[1:]), False)
        self.assertIs(is_bond(bare, (0,), (1,), ((((), UNIT),),) + paper[1:]), False)
        self.assertIs(is_bond(bare, (0,), (1,), (None,) + paper[1:]), False)


class BondTest(unittest.TestCase):

    def test_bonds(self):
        found = 0
        for t, lot, others in ((2, (0,), (1,)), (3, (0, 2), (1,)), (3, (2,), (0,))):
            for drawn, teller, n, c in laws(20 + t, 60, t):
                paper = bond(teller, lot, others)
                check_call(self, bond, teller, lot, others)
                self.assertIs(paper is None, are_apart(teller, lot, others))
                if paper is None:
                    continue
                found += 1
                source, numbers, more = paper
                self.assertTrue(is_source(source, c if n else 1))
                self.assertLessEqual(len(source), 6)
                self.assertTrue(self.is_slow_bond(teller, n, lot, others, paper))
                self.assertIs(is_bond(teller, lot, others, paper), True)
                self.assertIs(is_bond(teller, others, lot, (source, more, numbers)), True)
                check_call(self, is_bond, teller, lot, others, paper)
        self.assertGreater(found, 25)

    def is_slow_bond(self, teller, n, lot, others, paper):
        source, numbers, more = paper
        table = slow.told(teller, source, n)
        own = sum(x for told, x in table.items() if tuple(told[k] for k in lot) == numbers)
        far = sum(x for told, x in table.items() if tuple(told[k] for k in others) == more)
        both = sum(x for told, x in table.items()
                   if tuple(told[k] for k in lot) == numbers and tuple(told[k] for k in others) == more)
        return both != own * far

    def test_against_all_drawings(self):
        answers = []
        for drawn, teller, n, c in laws(25, 120, 2):
            source = drawn.source(c, 3, 1)
            table = slow.told(teller, source, n)
            for told in list(table)[:3]:
                for far in list(table)[:3]:
                    thing = (source, told[:1], far[1:])
                    right = self.is_slow_bond(teller, n, (0,), (1,), thing)
                    self.assertIs(is_bond(teller, (0,), (1,), thing), right)
                    answers.append(right)
        self.assertTrue(20 < answers.count(True) < len(answers) - 20)

    def test_five_samples(self):
        # Two lots of three samples with one in common: with six samples drawn anew.
        def product(places):
            form = number_form(5, 1, UNIT)
            for k in places:
                form = times_forms(form, sample_form(5, 1, k, 0))
            return form
        for lot, others in (((0, 1, 2), (2, 3, 4)), ((0, 1, 2, 3, 4), (4,)), ((0, 1, 2, 3, 4), (0, 1, 2, 3, 4))):
            teller = (((product(lot), product(others)), UNIT),)
            self.assertFalse(are_apart(teller, (0,), (1,)))
            paper = bond(teller, (0,), (1,))
            self.assertTrue(self.is_slow_bond(teller, 5, (0,), (1,), paper))
            self.assertTrue(is_bond(teller, (0,), (1,), paper))
        teller = (((product((0, 1, 2)), product((3, 4))), UNIT),)
        self.assertTrue(are_apart(teller, (0,), (1,)))
        self.assertIsNone(bond(teller, (0,), (1,)))

    def test_wrong_things(self):
        a, b = sample_form(2, 1, 0, 0), sample_form(2, 1, 1, 0)
        teller = (((a, plus_forms(a, b)), UNIT),)
        coin = even_source(((ZERO,), (UNIT,)))
        right = (coin, (UNIT,), ((2, 1),))
        self.assertIs(is_bond(teller, (0,), (1,), right), True)
        for thing in slow.spoiled(right) + list(slow.STRANGE):
            self.assertIs(is_bond(teller, (0,), (1,), thing), False, thing)
        for thing in (
                right[:2], right + (UNIT,), (coin, (UNIT,), (UNIT,)), (coin, (), ((2, 1),)), (coin, (UNIT,), ()),
                (coin, (UNIT, UNIT), ((2, 1),)), (coin, ((2, 2),), ((2, 1),)), (coin[::-1], (UNIT,), ((2, 1),)),
                (coin, ((9, 1),), ((2, 1),)), (coin[:1], (UNIT,), ((2, 1),)),
                ((((ZERO,), HALF), ((UNIT,), (1, 3))), (UNIT,), ((2, 1),)),
                ((((ZERO, ZERO), HALF), ((UNIT, UNIT), HALF)), (UNIT,), ((2, 1),))):
            self.assertIs(is_bond(teller, (0,), (1,), thing), False, thing)
        rows = tuple(((k, 1),) for k in range(7))
        self.assertIs(is_bond(teller, (0,), (1,), (even_source(rows[:6]), (UNIT,), ((2, 1),))), True)
        self.assertIs(is_bond(teller, (0,), (1,), (even_source(rows), (UNIT,), ((2, 1),))), False)
        great = even_source((((10 ** 50, 3),), ((10 ** 60, 3),)))
        self.assertIs(is_bond(teller, (0,), (1,), (great, ((10 ** 50, 3),), ((2 * 10 ** 50, 3),))), True)
        self.assertIs(is_bond((((a, b), UNIT),), (0,), (1,), (coin, (UNIT,), (UNIT,))), False)


class ErrorTest(unittest.TestCase):

    def calls(self, teller, lot, others):
        return [(are_apart, (teller, lot, others)), (bond, (teller, lot, others)),
                (is_bond, (teller, lot, others, None)), (drawn_anew, (teller, lot, others))]

    def test_no_place(self):
        six = (((1,),) * 6, UNIT)
        for teller in ((((sample_form(2, 1, 0, 0),) * 2, UNIT),), ((((six,), (six,)), UNIT),)):
            for lot, others, place in (
                    ((2,), (0,), 2), ((0,), (2,), 2), ((0, 4), (7,), 4), ((-1,), (3,), -1), ((0,), (-5, 1), -5),
                    ((-2, 0), (-3,), -2), ((1, 10 ** 30), (0,), 10 ** 30)):
                for function, args in self.calls(teller, lot, others):
                    got = check_call(self, function, *args)
                    self.assertEqual(got, ("error", NoPlace, {"place": place}), function.__name__)

    def test_too_much(self):
        for n, much in ((5, False), (6, True), (7, True)):
            own, none = ((1,),) * n, ((0,),) * n
            whole = ((((own, UNIT),), ((none, HALF),)), UNIT)
            # It counts what all tells hang on together, also those that are not asked for.
            parts = tuple(sample_form(n, 1, k, 0) for k in range(n)) + ((), ())
            for teller, lot, others in (((whole,), (0,), (1,)), (((parts, UNIT),), (n,), (n + 1,))):
                for function, args in self.calls(teller, lot, others)[:3] + [
                        (apart_lots, (teller,)), (samples_paper, (teller,)), (is_samples_paper, (teller, None))]:
                    got = outcome(function, args, {})
                    self.assertEqual(got[1] == TooMuch, much, (function.__name__, n)) if n < 6 or much else None
                got = outcome(drawn_anew, (teller, lot, others), {})
                self.assertEqual(got[0], "value")

    def test_too_much_ahead_of_unfit(self):
        six = (((((((1,),) * 6, UNIT),),), UNIT),)
        for pairs in ((), (((UNIT,), (ZERO,)),) * 6, (((UNIT,), (ZERO,)),) * 5):
            got = check_call(self, signed_count, six, pairs, (UNIT,))
            self.assertEqual(got[1], TooMuch)
        five = (((((((1,),) * 5, UNIT),),), UNIT),)
        for pairs in ((), (((UNIT,), (ZERO,)),) * 6, (((UNIT,), (ZERO,)),) * 4):
            got = check_call(self, signed_count, five, pairs, (UNIT,))
            self.assertEqual(got[1], Unfit)
        self.assertEqual(signed_count(five, (((UNIT,), (ZERO,)),) * 5, (UNIT,)), (120, 1))
        bare = (((number_form(2, 1, HALF),), UNIT),)
        self.assertEqual(outcome(signed_count, (bare, (((UNIT,), (ZERO,)),), (UNIT,)), {})[1], Unfit)


class CountTest(unittest.TestCase):

    def slow_count(self, teller, pairs, numbers):
        out = Fraction(0)
        for tells, weight in teller:
            kept = slow.hung(tells)
            if len(kept) != len(pairs):
                continue
            n = max([len(form[0][0]) for form in tells if form], default=0)
            for marks in itertools.product((0, 1), repeat=len(pairs)):
                for order in slow.orders(len(pairs)):
                    rows = [((9, 1),) * len(pairs[0][0]) if pairs else ()] * n
                    for k, place in enumerate(order):
                        rows[kept[place]] = pairs[k][marks[k]]
                    if tuple(slow.pair(slow.value(form, rows)) for form in tells) == numbers:
                        out += slow.exact(weight) * (-1) ** sum(marks)
        return slow.pair(out)

    def test_signed_count(self):
        found = 0
        for drawn, teller, n, c in laws(30, 60, 2):
            many = fewest_samples(teller)
            pairs = tuple((drawn.row(c, 1), drawn.row(c, 2)) for _ in range(many))
            rows = tuple(one for one, _ in pairs)
            for tells, _ in teller:
                kept = slow.hung(tells)
                small = tuple(tuple((tuple(own[i] for i in kept), x) for own, x in form) for form in tells)
                told = tuple(slow.pair(slow.value(form, rows)) for form in small) if len(kept) <= many else ()
                count = self.slow_count(teller, pairs, told)
                self.assertEqual(signed_count(teller, pairs, told), count)
                check_call(self, signed_count, teller, pairs, told)
                if many:
                    self.assertIs(is_samples_paper(teller, (pairs, told)), count != ZERO and len(told) == 2)
                found += count != ZERO
        self.assertGreater(found, 20)

    def test_samples_paper(self):
        for t in (1, 2):
            for drawn, teller, n, c in laws(31 + t, 40, t):
                paper = samples_paper(teller)
                check_call(self, samples_paper, teller)
                if fewest_samples(teller) == 0:
                    self.assertIsNone(paper)
                    for thing in ((), ((), ()), ((), (UNIT,) * t), None):
                        self.assertIs(is_samples_paper(teller, thing), False)
                    continue
                pairs, numbers = paper
                self.assertEqual(len(pairs), fewest_samples(teller))
                self.assertNotEqual(self.slow_count(teller, pairs, numbers), ZERO)
                self.assertIs(is_samples_paper(teller, paper), True)
                check_call(self, is_samples_paper, teller, paper)

    def test_fewer_samples_do_not_do(self):
        # The signed count of a program with fewer samples is 0: each chosen ROW is left out somewhere.
        a, b = sample_form(2, 1, 0, 0), sample_form(2, 1, 1, 0)
        teller = (((times_forms(a, b),), HALF), ((a,), HALF))
        pairs = (((UNIT,), (ZERO,)), (((2, 1),), (ZERO,)))
        self.assertEqual(signed_count(teller, pairs, ((2, 1),)), UNIT)
        self.assertEqual(signed_count(teller, pairs, (ZERO,)), (-1, 1))
        self.assertEqual(signed_count(teller, pairs, (UNIT,)), ZERO)

    def test_no_samples(self):
        bare = (((number_form(2, 1, HALF),), (1, 3)), ((number_form(2, 1, UNIT),), (2, 3)))
        bare = tuple(sorted(bare))
        self.assertEqual(signed_count(bare, (), (HALF,)), (1, 3))
        self.assertEqual(signed_count(bare, (), (ZERO,)), ZERO)
        self.assertIsNone(samples_paper(bare))
        self.assertIs(is_samples_paper(bare, ((), (HALF,))), False)

    def test_wrong_things(self):
        a, b = sample_form(2, 1, 0, 0), sample_form(2, 1, 1, 0)
        teller = (((times_forms(a, b),), UNIT),)
        ones = (((UNIT,), (ZERO,)),) * 2
        right = (ones, (UNIT,))
        self.assertIs(is_samples_paper(teller, right), True)
        for thing in slow.spoiled(right) + list(slow.STRANGE):
            self.assertIs(is_samples_paper(teller, thing), False, thing)
        for thing in (
                (ones[:1], (UNIT,)), (ones + ones, (UNIT,)), (ones, (UNIT, UNIT)), (ones, ()), (ones, ((7, 1),)),
                (ones,), right + (UNIT,), ((((UNIT,),), ((UNIT,), (ZERO,))), (UNIT,)),
                ((((UNIT, UNIT), (ZERO, ZERO)),) * 2, (UNIT,)), ((((UNIT,), ((0, 2),)),) * 2, (UNIT,)),
                (ones, ((2, 2),)), ((), (UNIT,)), ((((UNIT,), (UNIT,)),) * 2, (UNIT,))):
            self.assertIs(is_samples_paper(teller, thing), False, thing)
        great = ((((10 ** 40, 3),), ((1, 10 ** 40),)),) * 2
        self.assertIs(is_samples_paper(teller, (great, ((10 ** 80, 9),))), True)
        self.assertIs(is_samples_paper(teller, (ones, (ZERO,))), True)


class TogetherTest(unittest.TestCase):

    def test_apart_is_the_same_as_anew(self):
        for drawn, teller, n, c in laws(40, 30, 3):
            for lot, others in two_lots(3):
                same = same_chances(alone(teller, lot + others), drawn_anew(teller, lot, others))
                self.assertIs(are_apart(teller, lot, others), same)


if __name__ == "__main__":
    unittest.main()
