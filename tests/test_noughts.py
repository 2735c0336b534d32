import itertools
import unittest
from fractions import Fraction

import slow
from calls import check_call, outcome
from everysource.errors import CanNot, NoPlace, Unfit
from everysource.forms import is_form
from everysource.noughts import (
    beaten_by, beating_paper, best_with, is_beating_paper, is_best, is_level, is_nought, mean_over, nought_basis,
    quiet_columns,
)
from everysource.sources import is_source
from everysource.wishes import is_wish

ZERO, HALF, UNIT = (0, 1), (1, 2), (1, 1)
X, Y, XY, NONE = (1, 0), (0, 1), (1, 1), (0, 0)
HUGE = 10 ** 30 + 57
KINDS = (((0,), 1), ((0, 1), 2))
CANNOT = ("error", CanNot, {})


def fits(powers, shown):
    return all(slow.shows(seen, own) for own, seen in zip(powers, shown))


def slow_fitting(shown, sums):
    """All powers that fit and come to sums, straight from a list of all powers."""
    each = list(itertools.product(*[range(k + 1) for k in sums]))
    out = []
    for powers in itertools.product(each, repeat=len(shown)):
        if fits(powers, shown) and tuple(sum(column) for column in zip(*powers)) == sums:
            out.append(powers)
    return out


def factors_of(powers):
    return tuple(sorted(own for own in powers if any(own)))


def slow_level(shown, form):
    """Whether all powers that fit and come of some in form by renaming have the same FRACTION."""
    table = dict(form)
    return all(table.get(name, ZERO) == x for powers, x in form
               for name in itertools.permutations(powers) if fits(name, shown))


def slow_quiet(shown, sample):
    return tuple(k for k in shown[sample] if all(
        k in seen for place, seen in enumerate(shown) if place != sample and set(seen) & set(shown[sample])))


def slow_best(shown, form):
    quiet = [slow_quiet(shown, sample) for sample in range(len(shown))]
    uses = all(k in quiet[sample] for powers, _ in form for sample, own in enumerate(powers)
               for k, power in enumerate(own) if power)
    return slow_level(shown, form) and uses


def level_form(drawn, kinds, c):
    """A level FORM that fits."""
    shown, out = slow.shown_by(kinds), {}
    for powers, x in slow.fitting_form(drawn, kinds, c, 2, 1):
        for name in itertools.permutations(powers):
            if fits(name, shown):
                out[name] = slow.exact(x)
    return slow.from_sums(out)


def some_forms(seed, many, most=3):
    drawn = slow.Drawn(seed)
    for k in range(many):
        for c in (1, 2, 3):
            kinds = slow.kinds_of(drawn, c, most, drawn.number(1, 3))
            yield drawn, c, kinds, level_form(drawn, kinds, c) if k % 2 else slow.fitting_form(drawn, kinds, c, 3, 1)


def multiple(form, nought, share):
    return slow.plus(form, nought, -share)


def spread(form, source, n):
    return slow.spread((((form,), UNIT),), source, n)


class MeanTest(unittest.TestCase):

    def test_mean_over(self):
        drawn = slow.Drawn(1)
        for _ in range(40):
            n, c = drawn.number(0, 3), drawn.number(1, 2)
            form, source = drawn.form(n, c, 5), drawn.source(c, 2, 2)
            lot = tuple(k for k in range(n) if drawn.number(0, 1))
            got = check_call(self, mean_over, form, lot)[1]
            self.assertEqual(list(got), sorted(got))
            self.assertEqual(len({powers for powers, _ in got}), len(got))
            for powers, wish in got:
                self.assertTrue(wish != () and is_wish(wish, c))
                self.assertTrue(len(powers) == n and all(not any(powers[k]) for k in lot))
            rows = [drawn.row(c) for _ in range(n)]
            right = Fraction(0)
            for drawing, chance in slow.drawings(source, len(lot)):
                own = list(rows)
                for k, row in zip(lot, drawing):
                    own[k] = row
                right += chance * slow.value(form, own)
            value = Fraction(0)
            for powers, wish in got:
                value += slow.wish_value(wish, source) * slow.value(((powers, UNIT),), rows)
            self.assertEqual(value, right)

    def test_edges_of_mean_over(self):
        form = (((X, NONE), (-1, 1)), ((X, Y), HALF), ((NONE, X), UNIT))
        form = tuple(sorted(form))
        self.assertEqual(mean_over(form, ()), tuple((powers, (((), x),)) for powers, x in form))
        self.assertEqual(
            mean_over(form, (0, 1)), (((NONE, NONE), (((Y, X), HALF),)),))
        self.assertEqual((mean_over((), (0,)), mean_over((((), HALF),), ())), ((), (((), (((), HALF),)),)))
        gone = tuple(sorted((((X, NONE), (-1, 1)), ((NONE, X), UNIT))))
        self.assertEqual(mean_over(gone, (0, 1)), ())

    def test_is_nought(self):
        drawn, some = slow.Drawn(2), 0
        for _ in range(60):
            n, c = drawn.number(0, 3), drawn.number(1, 2)
            form = drawn.form(n, c)
            if drawn.number(0, 1):
                form = slow.plus(form, slow.renamed(form, drawn.order(n)), -1)
            right = slow.wish_of(form) == ()
            some += right and form != ()
            self.assertIs(is_nought(form), right)
            check_call(self, is_nought, form)
        self.assertGreater(some, 5)
        self.assertEqual((is_nought(()), is_nought((((), HALF),))), (True, False))

    def test_nought_basis(self):
        drawn = slow.Drawn(3)
        for _ in range(40):
            c = drawn.number(1, 2)
            kinds, sums = slow.kinds_of(drawn, c, 3), tuple(drawn.number(0, 4 // c) for _ in range(c))
            every = slow_fitting(slow.shown_by(kinds), sums)
            right = []
            for powers in every:
                least = min(own for own in every if factors_of(own) == factors_of(powers))
                if powers != least:
                    right.append(((least, (-1, 1)), (powers, UNIT)))
            self.assertEqual(nought_basis(kinds, sums), sorted(right))
            check_call(self, nought_basis, kinds, sums)
        self.assertEqual((nought_basis(KINDS, NONE), nought_basis((((0,), 2),), Y)), ([], []))
        self.assertEqual(len(nought_basis((((0, 1), 4),), (2, 2))), len(slow_fitting([(0, 1)] * 4, (2, 2))) - 9)


class LevelTest(unittest.TestCase):

    def test_level_and_best(self):
        counts = [0, 0, 0]
        for drawn, c, kinds, form in some_forms(4, 120):
            shown = slow.shown_by(kinds)
            level, best = slow_level(shown, form), slow_best(shown, form)
            self.assertIs(is_level(kinds, form), level)
            self.assertIs(is_best(kinds, form), best)
            check_call(self, is_level, kinds, form)
            check_call(self, is_best, kinds, form)
            counts = [counts[0] + level, counts[1] + best, counts[2] + (level and not best)]
        self.assertGreater(min(counts[1], counts[2], 360 - counts[0]), 10)

    def test_best_by_noughts(self):
        # A FORM is best exactly if its products with noughts have the mean 0.
        for drawn, c, kinds, form in some_forms(5, 12):
            shown = slow.shown_by(kinds)
            off = False
            for sums in itertools.product(range(4 if c < 3 else 2), repeat=c):
                for nought in nought_basis(kinds, sums):
                    off = off or slow.wish_of(slow.times(form, nought)) != ()
            if off:
                self.assertIs(is_best(kinds, form), False)
            if slow_best(shown, form):
                self.assertIs(off, False)
            elif c < 3:
                self.assertIs(off, True)

    def test_quiet_columns(self):
        drawn = slow.Drawn(6)
        for _ in range(30):
            c = drawn.number(1, 3)
            kinds = slow.kinds_of(drawn, c)
            shown = slow.shown_by(kinds)
            for sample in range(-2, len(shown) + 2):
                got = check_call(self, quiet_columns, kinds, sample)
                if 0 <= sample < len(shown):
                    self.assertEqual(got, ("value", slow_quiet(shown, sample)))
                else:
                    self.assertEqual(got, ("error", NoPlace, {"place": sample}))
        self.assertEqual(quiet_columns((((0, 1), 1),), 0), (0, 1))
        self.assertEqual(quiet_columns((((0,), 1), ((1, 2), 1)), 1), (1, 2))
        self.assertEqual(quiet_columns((((0,), 1), ((0, 1), 1), ((1,), 1)), 1), ())

    def test_edges(self):
        for form in ((), (((NONE, NONE, NONE), HALF),)):
            self.assertEqual((is_level(KINDS, form), is_best(KINDS, form)), (True, True))
            self.assertEqual(outcome(beating_paper, (KINDS, form), {}), CANNOT)
            self.assertIs(is_beating_paper(KINDS, form, ((), (((ZERO, ZERO), UNIT),))), False)
        great = tuple(((tuple((HUGE, 0) if k == place else NONE for k in range(3))), (HUGE, 7)) for place in (2, 1, 0))
        self.assertIs(is_best(KINDS, great), True)

    def test_unfit(self):
        source = (((ZERO, UNIT), UNIT),)
        wrong = [
            (((Y, NONE, NONE), UNIT),), (((X, NONE), UNIT),), (((X, NONE, NONE, NONE), UNIT),), (((), HALF),),
            (((X, NONE, NONE), UNIT), ((XY, NONE, NONE), UNIT))]
        for form in wrong:
            for call in (is_level, is_best, beating_paper):
                self.assertEqual(check_call(self, call, KINDS, form), ("error", Unfit, {}))
            for thing in (None, (), (form, source)):
                self.assertEqual(check_call(self, is_beating_paper, KINDS, form, thing), ("error", Unfit, {}))


class BestWithTest(unittest.TestCase):

    def test_best_with(self):
        drawn, some = slow.Drawn(7), 0
        for k in range(150):
            c = drawn.number(1, 2)
            kinds, wish = slow.kinds_of(drawn, c, 3), drawn.wish(c, 2, 2)
            if k % 3 == 0:
                wish = slow.wish_of(level_form(drawn, kinds, c))
            shown = slow.shown_by(kinds)
            level = {}
            for factors, x in wish:
                names = {name for name in itertools.permutations(
                    factors + ((0,) * c,) * (len(shown) - len(factors))) if fits(name, shown)}
                if len(factors) > len(shown) or not names:
                    level = None
                    break
                level.update({name: slow.exact(x) / len(names) for name in names})
            got = check_call(self, best_with, kinds, wish)
            if level is None or not slow_best(shown, slow.from_sums(level)):
                self.assertEqual(got, CANNOT)
                continue
            some += wish != ()
            if slow.wish_degree(wish) > 0:
                self.assertEqual(got, ("value", slow.from_sums(level)))
            self.assertEqual(slow.wish_of(got[1]), wish)
        self.assertGreater(some, 20)
        self.assertEqual(best_with((((0,), 1), ((2,), 1)), (((), HALF),)), ((((0, 0, 0), (0, 0, 0)), HALF),))
        self.assertEqual(best_with(KINDS, ()), ())
        self.assertEqual(outcome(best_with, (KINDS, (((Y, Y, Y), UNIT),)), {}), CANNOT)

    def test_no_less_spread(self):
        drawn, some = slow.Drawn(8), 0
        for _ in range(60):
            kinds = slow.kinds_of(drawn, 2, 3)
            form = level_form(drawn, kinds, 2)
            n = len(slow.shown_by(kinds))
            if form == () or not is_best(kinds, form):
                continue
            source = slow.source_of_rows(drawn, 2, 2, 3)
            for nought in (nought_basis(kinds, XY) + nought_basis(kinds, X))[:4]:
                other = slow.plus(form, nought, drawn.choice((1, -1, Fraction(1, 3))))
                self.assertGreaterEqual(spread(other, source, n), spread(form, source, n))
                some += 1
        self.assertGreater(some, 10)


class PaperTest(unittest.TestCase):

    def test_beating_paper(self):
        some = 0
        for drawn, c, kinds, form in some_forms(9, 60):
            shown = slow.shown_by(kinds)
            got = check_call(self, beating_paper, kinds, form)
            if slow_best(shown, form):
                self.assertEqual(got, CANNOT)
                continue
            some += 1
            nought, source = got[1]
            self.assertTrue(is_form(nought, len(shown), c) and is_source(source, c))
            self.assertTrue(all(fits(powers, shown) for powers, _ in nought))
            self.assertEqual(slow.wish_of(nought), ())
            self.assertNotEqual(slow.wish_value(slow.wish_of(slow.times(form, nought)), source), 0)
            self.assertIs(is_beating_paper(kinds, form, got[1]), True)
            check_call(self, is_beating_paper, kinds, form, got[1])
            if len(source) ** len(shown) <= 81:
                self.check_beaten(form, got[1], len(shown))
        self.assertGreater(some, 20)

    def check_beaten(self, form, paper, n):
        nought, source = paper
        less = check_call(self, beaten_by, form, paper)[1]
        self.assertTrue(is_form(less, n, len(form[0][0][0])))
        off = slow.plus(form, less, -1)
        share = slow.exact(off[0][1]) / slow.exact(dict(nought)[off[0][0]])
        self.assertEqual(off, slow.from_sums({powers: share * slow.exact(x) for powers, x in nought}))
        self.assertLess(spread(less, source, n), spread(form, source, n))
        self.assertEqual(
            spread(multiple(form, nought, share + 1), source, n), spread(multiple(form, nought, share - 1), source, n))

    def test_forms_where_simple_noughts_do_not_do(self):
        # x0 y1 less its mean over renaming has products with some noughts that vanish.
        kinds = (((0, 1), 2),)
        for form in (
                (((X, Y), UNIT), ((Y, X), (-1, 1))), (((NONE, X), (-1, 1)), ((X, NONE), UNIT)),
                ((((0, 1), (0, 2)), UNIT), (((0, 2), (0, 1)), (-1, 1)), ((X, Y), (3, 1))),
                ((((2, 0), X), (1, 3)), ((X, (2, 0)), (2, 3)))):
            form = tuple(sorted(form))
            paper = beating_paper(kinds, form)
            self.assertIs(is_beating_paper(kinds, form, paper), True)
            self.assertNotEqual(slow.mean(slow.times(form, paper[0]), paper[1], 2), 0)
        loud = tuple(sorted((((NONE, Y, NONE), HALF), ((NONE, NONE, Y), HALF))))
        self.assertIs(is_level(KINDS, loud), True)
        self.assertIs(is_beating_paper(KINDS, loud, beating_paper(KINDS, loud)), True)

    def test_forms_that_hide(self):
        # Each FORM is made such that its products with all noughts that were found before have the mean 0.
        for kinds, parts in (
                ((((0,), 1), ((0, 1), 1)), [(NONE, (k, m)) for k in (0, 1, 2) for m in (1, 2)]),
                ((((0, 1), 2),), [(X, NONE), ((2, 0), NONE), (Y, NONE), (XY, NONE)])):
            coefficients, papers = [Fraction(1)] * len(parts), []
            while coefficients is not None and len(papers) < 4:
                form = slow.from_sums(dict(zip(parts, coefficients)))
                paper = beating_paper(kinds, form)
                self.assertIs(is_beating_paper(kinds, form, paper), True)
                self.assertNotEqual(slow.mean(slow.times(form, paper[0]), paper[1], 2), 0)
                papers.append(paper)
                products = [[slow.wish_of(slow.times(((own, UNIT),), nought)) for own in parts] for nought, _ in papers]
                table = [[slow.exact(dict(wish).get(factors, ZERO)) for wish in line]
                         for line in products for factors in sorted({key for wish in line for key, _ in wish})]
                coefficients = slow.null_line(table)

    def test_wrong_papers(self):
        form = (((NONE, Y, NONE), UNIT),)
        nought = tuple(sorted((((NONE, X, NONE), UNIT), ((X, NONE, NONE), (-1, 1)))))
        good = (nought, (((ZERO, ZERO), HALF), ((UNIT, UNIT), HALF)))
        self.assertIs(is_beating_paper(KINDS, form, good), True)
        for thing in slow.spoiled(good) + list(slow.STRANGE) + [good[:1], good + good[:1], good[::-1]]:
            self.assertIs(is_beating_paper(KINDS, form, thing), False, thing)
        for thing in (
                (nought[:1], good[1]), ((((NONE, NONE, X), (-1, 1)), ((X, NONE, NONE), UNIT)), good[1]),
                (tuple(sorted((((NONE, Y, NONE), UNIT), ((Y, NONE, NONE), (-1, 1))))), good[1]), ((), good[1]),
                (nought, (((UNIT, UNIT), UNIT),)), (nought, (((UNIT,), HALF), ((ZERO,), HALF))), (good[0][::-1], good[1]),
                ((((X, NONE), (-1, 1)), ((NONE, X), UNIT)), good[1])):
            self.assertIs(is_beating_paper(KINDS, form, thing), False, thing)
        same = (((NONE, NONE, Y), UNIT),)
        self.assertIs(is_beating_paper(KINDS, same, ((((NONE, NONE, X), UNIT), ((X, NONE, NONE), (-1, 1))), good[1])), True)
        rows = tuple((((k, 1), (k * k, 1)), (1, 200)) for k in range(200))
        self.assertIs(is_beating_paper(KINDS, form, (nought, rows)), True)
        great = tuple(sorted((((NONE, (HUGE, 0), NONE), (HUGE, 3)), (((HUGE, 0), NONE, NONE), (-HUGE, 3)))))
        self.assertIs(is_beating_paper(KINDS, form, (great, good[1])), True)
        self.assertEqual(beaten_by(form, good)[-1][1], HALF)


if __name__ == "__main__":
    unittest.main()
