import itertools
import unittest
from fractions import Fraction

import slow
from calls import check_call, outcome
from everysource.errors import Unfit
from everysource.papers import (
    comes_of, first_false, is_claim, is_matching, is_paper_against, is_paper_for, is_so, paper, verdicts,
)
from everysource.steady import most_step
from everysource.sums import times_totals
from test_keepers import determinant, few_letters, linear, slow_slope, told as keeper_told
from test_steady import RINGS, drawn_gain, slow_ring_gain, stored_gain
from test_sums import drawn_rows, slow_at

ZERO, HALF, UNIT = (0, 1), (1, 2), (1, 1)
HUGE = 10 ** 30 + 57
UNFIT = ("error", Unfit, {})
X, Y = ((((1,), (0,)), UNIT),), ((((0,), (1,)), UNIT),)
SOLO, COIN, TWO = (((X,), UNIT),), (((Y,), HALF), ((X,), HALF)), (((X, Y), UNIT),)
SQUARED = ((((((((2,), (0,)), UNIT),),)), UNIT),)
LONE = (((((((1,),), UNIT),),), UNIT),)
TWIN = (((X, X), UNIT),)
RISE = (2, 2, (((0, 1), UNIT),))
TURN = (2, 2, (((0, 1), UNIT), ((1, 0), (-1, 1))))
SPREAD = ((((0,), (2,)), UNIT), (((1,), (1,)), (-1, 1)))
PAIR = (((0,), 1), ((0, 1), 1))
FAR = ((((0, 1), (1, 0)), UNIT),)
BEST = ((((0, 0), (0, 1)), UNIT),)
CLAIMS = (
    ("same", SOLO, COIN), ("same", SOLO, SQUARED),
    ("apart", TWO, (0,), (1,)), ("apart", TWIN, (0,), (1,)), ("needs", SOLO, 1), ("needs", SOLO, 2), ("needs", COIN, 0),
    ("told", PAIR, FAR), ("told", PAIR, ((((0, 1), (0, 1)), UNIT),)), ("best", PAIR, BEST), ("best", PAIR, ()),
    ("kept", SPREAD, 1, 3), ("kept", SPREAD, 1, 4), ("kept", SPREAD, 1, 0), ("steady", RISE), ("steady", TURN),
    ("most", RISE, HALF), ("most", RISE, (1, 3)))


def filled(tells, n, c):
    return tuple(tuple((powers + ((0,) * c,) * (n - len(powers)), x) for powers, x in form) for form in tells)


def widths(teller):
    for tells, _ in teller:
        for form in tells:
            if form:
                return len(form[0][0]), len(form[0][0][0]) if form[0][0] else 0
    return 0, 0


def is_match(teller, further, thing):
    """Whether thing, in shape a MATCHING, is one, by all renamings and by sums."""
    (n, c), (m, far) = widths(teller), widths(further)
    n, c, sums = max(n, m), max(c, far), {}
    for place, other, order, weight in thing:
        one, two = filled(teller[place][0], n, c), filled(further[other][0], n, c)
        if slow.renamed_tells(one, order) != two:
            return False
        for key in (("near", place), ("far", other)):
            sums[key] = sums.get(key, 0) + slow.exact(weight)
    want = {("near", k): slow.exact(x) for k, (_, x) in enumerate(teller)}
    want.update({("far", k): slow.exact(x) for k, (_, x) in enumerate(further)})
    return sums == want


def told_at(teller, source):
    return slow.told(teller, source, widths(teller)[0])


def alone(teller, places):
    return slow.from_sums(slow.added([(tuple(tells[k] for k in places), slow.exact(x)) for tells, x in teller]))


class Judge:
    """Draws CLAIMS, each kind often so and often not, and judges PAPERS by drawings and sums."""

    def __init__(self, seed):
        self.things = slow.Drawn(seed)

    def claims(self):
        return [getattr(self, "draw_" + kind)() for kind in KINDS]

    def is_good(self, claim, thing, for_it):
        return getattr(self, ("for_" if for_it else "against_") + claim[0])(claim, thing)

    def draw_same(self):
        things = self.things
        n, c, t = things.number(0, 3), things.number(1, 2), things.number(1, 2)
        teller = things.teller(n, c, t, 3, 2)
        if things.number(0, 1):
            m = n + things.number(0, 1)
            wide = tuple((filled(tells, m, c), x) for tells, x in teller)
            return ("same", teller, slow.shuffled_law(things, wide, m))
        return ("same", teller, things.teller(things.number(0, 2), c, t, 2, 2))

    def for_same(self, claim, thing):
        return is_match(claim[1], claim[2], thing)

    def against_same(self, claim, thing):
        source, told = thing
        return told_at(claim[1], source).get(told, 0) != told_at(claim[2], source).get(told, 0)

    def draw_apart(self):
        things = self.things
        n, c = things.number(1, 3), things.number(1, 2)
        if things.number(0, 1):
            # Tells of samples that are parted, with dice that rename them.
            near, far = things.tells(1, c, 1, 2)[0], things.tells(2, c, 1, 2)[0]
            tells = (tuple((powers + ((0,) * c,) * 2, x) for powers, x in near),
                     tuple((((0,) * c,) + powers, x) for powers, x in far))
            return ("apart", slow.shuffled_law(things, ((tells, UNIT),), 3), (0,), (1,))
        teller = things.teller(n, c, 3, 2, 1)
        return ("apart", teller) + things.choice([((0,), (1,)), ((0, 2), (1,)), ((2,), (0, 1)), ((1,), (2,))])

    def for_apart(self, claim, thing):
        _, teller, lot, others = claim
        source = slow.source_of_rows(self.things, max(widths(teller)[1], 1), 2)
        return slow.independent(told_at(teller, source), lot, others)

    def against_apart(self, claim, thing):
        _, teller, lot, others = claim
        source, numbers, more = thing
        table = told_at(teller, source)
        own = sum((x for t, x in table.items() if tuple(t[k] for k in lot) == numbers), Fraction(0))
        far = sum((x for t, x in table.items() if tuple(t[k] for k in others) == more), Fraction(0))
        both = sum((x for t, x in table.items()
                    if tuple(t[k] for k in lot) == numbers and tuple(t[k] for k in others) == more), Fraction(0))
        return both != own * far

    def draw_needs(self):
        things = self.things
        teller = things.teller(things.number(0, 3), things.number(1, 2), things.number(1, 2), 2, 2)
        return ("needs", teller, things.number(0, 4))

    def for_needs(self, claim, thing):
        _, teller, many = claim
        if many == 0:
            return thing == ()
        pairs, numbers = thing
        hung = [(slow.hung(tells), tells, slow.exact(x)) for tells, x in teller]
        most, count = max(len(own) for own, _, _ in hung), Fraction(0)
        for own, tells, weight in hung:
            if len(own) < most:
                continue
            for signs in itertools.product((0, 1), repeat=most):
                for order in itertools.permutations(range(most)):
                    rows = [((ZERO,) * len(pairs[0][0]))] * widths(teller)[0]
                    for place, sample in zip(order, own):
                        rows[sample] = pairs[place][signs[place]]
                    if tuple(slow.pair(slow.value(form, rows)) for form in tells) == numbers:
                        count += weight * (-1) ** sum(signs)
        return len(pairs) >= many and count != 0

    def against_needs(self, claim, thing):
        _, teller, many = claim
        narrow, match = thing
        source = slow.source_of_rows(self.things, max(widths(teller)[1], 1), 2)
        return (widths(narrow)[0] < many and is_match(teller, narrow, match)
                and told_at(teller, source) == told_at(narrow, source))

    def draw_told(self):
        c = self.things.number(1, 2)
        return ("told", slow.kinds_of(self.things, c, 3), self.things.wish(c, 2, 3))

    def for_told(self, claim, thing):
        _, kinds, wish = claim
        shown = slow.shown_by(kinds)
        return slow.wish_of(thing) == wish and all(
            len(powers) == len(shown) and all(slow.shows(*pair) for pair in zip(shown, powers)) for powers, _ in thing)

    def against_told(self, claim, thing):
        _, kinds, wish = claim
        source, other = thing
        felt = sum(self.seen(source, seen) != self.seen(other, seen) for seen in slow.shown_by(kinds))
        steps = []
        for k in range(slow.wish_degree(wish) + felt + 2):
            t = Fraction(k, 7)
            mixed = slow.added([(row, (1 - t) * slow.exact(x)) for row, x in source]
                               + [(row, t * slow.exact(x)) for row, x in other])
            steps.append(slow.wish_value(wish, [(row, slow.pair(x)) for row, x in mixed.items()]))
        for _ in range(felt + 1):
            steps = [high - low for low, high in zip(steps, steps[1:])]
        return any(steps)

    def seen(self, source, seen):
        return slow.added([(tuple(row[k] for k in seen), slow.exact(x)) for row, x in source])

    def draw_best(self):
        things, c = self.things, self.things.number(1, 2)
        kinds = slow.kinds_of(things, c, 3, things.number(1, 2))
        form = slow.fitting_form(things, kinds, c, 2, 2)
        if things.number(0, 1) and len(kinds) == 1:
            form = slow.evened(form, kinds[0][1])
        return ("best", kinds, form)

    def for_best(self, claim, thing):
        return thing == ()

    def against_best(self, claim, thing):
        _, kinds, form = claim
        nought, source = thing
        n = len(slow.shown_by(kinds))
        return (slow.wish_of(nought) == () and self.for_told(("told", kinds, ()), nought)
                and slow.mean(slow.times(form, nought), source, n) != 0)

    def draw_kept(self):
        things, c = self.things, self.things.number(1, 2)
        total = few_letters(things, c) if things.number(0, 1) else times_totals(linear(things, c, 2), linear(things, c, 2))
        return ("kept", total, c, things.number(0, 4))

    def for_kept(self, claim, thing):
        _, total, _, many = claim
        letters, ends = thing
        slopes = [slow_slope(total, powers) for powers in letters]
        return len(letters) >= many and len(letters) == len(ends) and determinant(
            [[slow_at(own, end) for own in slopes] for end in ends]) != 0

    def against_kept(self, claim, thing):
        _, total, c, many = claim
        rows = [drawn_rows(self.things, c, k) for k in range(5)]
        return len(thing[0]) < many and all(slow.exact(keeper_told(thing, own)) == slow_at(total, own) for own in rows)

    def gain(self):
        letters, width = self.things.choice(((1, 2), (2, 1), (2, 2), (2, 3), (3, 2)))
        kind = self.things.number(0, 2)
        if kind == 0:
            return drawn_gain(self.things, letters, width)
        return stored_gain(self.things, letters, width, kind == 1)

    def draw_steady(self):
        return ("steady", self.gain())

    def for_steady(self, claim, thing):
        return all(slow_ring_gain(claim[1], ring) == 0 for ring in RINGS[claim[1][:2]])

    def against_steady(self, claim, thing):
        return slow_ring_gain(claim[1], thing) != 0

    def draw_most(self):
        gain = self.gain()
        return ("most", gain, slow.pair(slow.exact(most_step(gain)) + Fraction(self.things.number(-1, 1), self.things.number(1, 40))))

    def for_most(self, claim, thing):
        return all(slow_ring_gain(claim[1], ring) <= slow.exact(claim[2]) * len(ring) for ring in RINGS[claim[1][:2]])

    def against_most(self, claim, thing):
        return slow_ring_gain(claim[1], thing) > slow.exact(claim[2]) * len(thing)


KINDS = ("same", "apart", "needs", "told", "best", "kept", "steady", "most")
RINGS[1, 2] = [(0,)]


class ClaimTest(unittest.TestCase):

    def test_right_claims(self):
        for claim in CLAIMS:
            self.assertIs(is_claim(claim), True, claim)
            check_call(self, is_claim, claim)
        judge = Judge(1)
        for _ in range(20):
            for claim in judge.claims():
                self.assertIs(is_claim(claim), True, claim)

    def test_spoiled_claims(self):
        for claim in (("same", SOLO, COIN), ("apart", TWO, (0,), (1,)), ("needs", SOLO, 2), ("told", PAIR, FAR),
                      ("best", PAIR, BEST), ("kept", SPREAD, 1, 3), ("steady", RISE), ("most", RISE, HALF)):
            for thing in slow.spoiled(claim):
                self.assertIs(is_claim(thing), False, thing)
            for thing in (claim[1:], claim + (1,), claim[:-1], list(claim), ("other",) + claim[1:], (claim,), ("",) + claim[1:],
                          ((),) + claim[1:], ([claim[0]],) + claim[1:], (claim[0].upper(),) + claim[1:], (claim[0],)):
                self.assertIs(is_claim(thing), False, thing)
            for kind in KINDS:
                if kind != claim[0]:
                    self.assertIs(is_claim((kind,) + claim[1:]), False, (kind, claim))
        for thing in slow.STRANGE:
            self.assertIs(is_claim(thing), False, thing)

    def test_wrong_places(self):
        wide = (((((((1, 0),), UNIT),),), UNIT),)
        nothing, number = ((((),), UNIT),), ((((((), HALF),),), UNIT),)
        broad = ((((((((0, 0, 0, 0, 1),) * 9), (HUGE ** 2, 7)),),), UNIT),)
        for thing, right in (
                (("same", SOLO, LONE), True), (("same", SOLO, wide), False), (("same", wide, SOLO), False), (("same", SOLO, TWO), False),
                (("same", TWO, TWIN), True), (("same", nothing, wide), True), (("same", SOLO, nothing), True), (("same", nothing, nothing), True),
                (("same", number, wide), True), (("same", number, SOLO), True), (("same", broad, broad), True), (("same", SOLO, broad), False),
                (("same", SOLO, (((X,), HALF),)), False), (("same", SOLO, ()), False), (("same", SOLO, (((), UNIT),)), False),
                (("same", SOLO, COIN[::-1]), False), (("same", SOLO, (((X,), (2, 2)),)), False),
                (("apart", TWO, (1,), (0,)), True), (("apart", TWO, (0,), (0,)), False), (("apart", TWO, (0,), (0, 1)), False),
                (("apart", TWO, (0, 1), (1,)), False), (("apart", TWO, (), (1,)), False), (("apart", TWO, (0,), ()), False),
                (("apart", TWO, (0,), (2,)), False), (("apart", TWO, (-1,), (1,)), False), (("apart", TWO, (False,), (1,)), False),
                (("apart", TWO, [0], (1,)), False), (("apart", TWO, 0, 1), False), (("apart", SOLO, (0,), (1,)), False),
                (("apart", (((X, Y, X), UNIT),), (2, 0), (1,)), False), (("apart", (((X, Y, X), UNIT),), (0, 2), (1,)), True),
                (("apart", (((X, Y, X), UNIT),), (0, 0), (1,)), False), (("apart", ((((), ()), UNIT),), (0,), (1,)), True),
                (("needs", SOLO, 0), True), (("needs", SOLO, 10 ** 40), True), (("needs", SOLO, -1), False), (("needs", SOLO, True), False),
                (("needs", nothing, 0), True), (("needs", SOLO, HALF), False), (("needs", broad, 10), True),
                (("told", PAIR, ()), True), (("told", PAIR, (((), HALF),)), True), (("told", PAIR, ((((1,),), UNIT),)), False),
                (("told", PAIR, ((((1, 0, 0),), UNIT),)), True), (("told", (((0,), 10 ** 40),), FAR), True), (("told", (), FAR), False),
                (("told", (((0,), 0),), FAR), False), (("told", (((0,), 1), ((0,), 1)), FAR), False), (("told", (((2,), 1),), FAR), False),
                (("told", PAIR, ((((1, 0), (0, 1)), UNIT),)), False), (("told", PAIR, ((((0, 0),), UNIT),)), False),
                (("told", PAIR, (((), ZERO),)), False), (("told", (((-1,), 1),), ()), False), (("told", PAIR, ((((),), UNIT),)), False),
                (("best", PAIR, ((((0, 1), (0, 0)), UNIT),)), False), (("best", PAIR, ((((1, 0), (0, 0)), UNIT),)), True),
                (("best", PAIR, ((((1, 0),), UNIT),)), False), (("best", PAIR, ((((1,), (0,)), UNIT),)), False),
                (("best", PAIR, ((((1, 0, 0), (0, 0, 0)), UNIT),)), True), (("best", (((0,), 10 ** 40),), ()), True),
                (("best", (((0,), 10 ** 40),), BEST), False), (("best", (), ()), False), (("best", PAIR, (((), UNIT),)), False),
                (("best", PAIR, ((((9 ** 30, 0), (0, 0)), (1, HUGE)),)), True), (("best", (((0,), -1),), ()), False),
                (("kept", SPREAD, 2, 3), False), (("kept", (), 2, 3), True), (("kept", (), 0, 3), False), (("kept", (((), HALF),), 7, 0), True),
                (("kept", SPREAD, 1, -1), False), (("kept", SPREAD, 1, 10 ** 40), True), (("kept", SPREAD, True, 1), False),
                (("kept", SPREAD, 1, None), False), (("kept", ((((1,), (0,)), UNIT),), 1, 1), False),
                (("steady", (10 ** 40, 10 ** 40, ())), True), (("steady", (2, 2, (((0, 2), UNIT),))), False), (("steady", ()), False),
                (("most", RISE, (-HUGE, 7)), True), (("most", RISE, (2, 4)), False), (("most", RISE, 1), False), (("most", RISE), False),
                (("most", (0, 1, ()), HALF), False)):
            self.assertIs(is_claim(thing), right, thing)
            if not right and slow.only_tuples(thing):
                for function in (is_so, paper):
                    self.assertEqual(outcome(function, (thing,), {}), UNFIT)
                for function in (is_paper_for, is_paper_against):
                    self.assertEqual(outcome(function, (thing, None), {}), UNFIT)
                for other in ((), (thing,), (("steady", RISE), thing)):
                    self.assertEqual(outcome(comes_of, (thing, other), {}), UNFIT)
                self.assertEqual(outcome(comes_of, (("steady", RISE), (("steady", RISE), thing)), {}), UNFIT)
                self.assertEqual(outcome(first_false, ((("steady", RISE), thing),), {}), UNFIT)
                self.assertEqual(outcome(verdicts, ((("steady", RISE), thing), (1, 2, 3)), {}), UNFIT)


class PaperTest(unittest.TestCase):

    def test_drawn_claims(self):
        judge, count, seen = Judge(2), {}, []
        for step in range(45):
            for claim in judge.claims():
                so = is_so(claim)
                thing = paper(claim)
                if step < 25:
                    check_call(self, is_so, claim)
                    check_call(self, paper, claim)
                    check_call(self, is_paper_for, claim, thing)
                    check_call(self, is_paper_against, claim, thing)
                self.assertIs(is_paper_for(claim, thing), so, claim)
                self.assertIs(is_paper_against(claim, thing), not so, claim)
                self.assertTrue(judge.is_good(claim, thing, so), (claim, thing))
                self.assertTrue(slow.only_tuples(thing))
                count[claim[0], so] = count.get((claim[0], so), 0) + 1
                seen.append((claim, so, thing))
        for kind in KINDS:
            for so in (True, False):
                self.assertGreater(count.get((kind, so), 0), 4, (kind, so))
        # No thing whatever is a PAPER for what is not so, or against what is.
        for place, (claim, so, _) in enumerate(seen[:120]):
            for _, _, thing in seen[place % 7::7]:
                self.assertFalse((is_paper_against if so else is_paper_for)(claim, thing), (claim, thing))

    def test_spoiled_papers(self):
        for claim in CLAIMS:
            so, thing = is_so(claim), paper(claim)
            judge = is_paper_for if so else is_paper_against
            self.assertIs(judge(claim, thing), True)
            for other in slow.spoiled(thing)[:3000] + list(slow.STRANGE):
                self.assertIs((is_paper_against if so else is_paper_for)(claim, other), False, (claim, other))
                if judge(claim, other) and other != thing:
                    # Other RINGS, and no letters where none are needed.
                    self.assertIn(claim[0], ("steady", "most", "kept"), (claim, other))
                    self.assertTrue(isinstance(other[0], int) or (claim[-1], other) == (0, ((), ())), (claim, other))

    def test_matchings(self):
        half = ((0, 0, (1, 0), HALF), (0, 1, (0, 1), HALF))
        for thing, right in (
                (half, True), (half[::-1], False), (half[:1], False), (list(half), False), (half + half, False), ((), False),
                (((0, 0, (0, 1), HALF), (0, 1, (0, 1), HALF)), False), (((0, 0, (1, 0), UNIT), (0, 1, (0, 1), HALF)), False),
                (((0, 0, (1, 0), (1, 3)), (0, 1, (0, 1), (2, 3))), False), (((0, 0, (1, 0), (2, 4)), (0, 1, (0, 1), HALF)), False),
                (((0, 0, (1, 0), (1, 4)), (0, 0, (1, 0), (1, 4)), (0, 1, (0, 1), HALF)), False),
                (((0, 0, (1, 0), (1, 6)), (0, 0, (1, 0), (1, 3)), (0, 1, (0, 1), HALF)), True),
                (((0, 0, (1, 0), (1, 3)), (0, 0, (1, 0), (1, 6)), (0, 1, (0, 1), HALF)), False),
                (((0, 0, (1, 0), (1, 10)), (0, 0, (1, 0), (2, 5)), (0, 1, (0, 1), HALF)), True),
                (((0, 0, (1, 0), (3, 4)), (0, 0, (1, 0), (-1, 4)), (0, 1, (0, 1), HALF)), False),
                (((1, 0, (1, 0), HALF), (0, 1, (0, 1), HALF)), False), (((0, 0, (1, 0), HALF), (0, 2, (0, 1), HALF)), False),
                (((0, -2, (1, 0), HALF), (0, 1, (0, 1), HALF)), False), (((0, 0, (1, 0), HALF), (0, True, (0, 1), HALF)), False),
                (((0, 0, [1, 0], HALF), (0, 1, (0, 1), HALF)), False), (((0, 0, (1,), HALF), (0, 1, (0, 1), HALF)), False),
                (((0, 0, (1, 0, 2), HALF), (0, 1, (0, 1, 2), HALF)), False), (((0, 0, (1, 1), HALF), (0, 1, (0, 1), HALF)), False),
                (((0, 0, (1, 0)), (0, 1, (0, 1))), False)):
            self.assertIs(is_matching(SOLO, COIN, thing), right, thing)
            self.assertIs(is_paper_for(("same", SOLO, COIN), thing), right)
            check_call(self, is_matching, SOLO, COIN, thing)
        for thing in slow.spoiled(half) + list(slow.STRANGE):
            self.assertIs(is_matching(SOLO, COIN, thing), False, thing)
        # All weights of the one, but not of the other.
        here, there = (0, 1), (1, 0)
        for thing, right in (
                (((0, 0, here, HALF), (0, 1, there, HALF)), False), (((0, 0, here, HALF), (1, 0, there, HALF)), False),
                (((0, 0, here, HALF), (1, 1, here, HALF)), True), (((0, 1, there, HALF), (1, 0, there, HALF)), True),
                (((0, 0, here, (1, 4)), (0, 1, there, (1, 4)), (1, 0, there, (1, 4)), (1, 1, here, (1, 4))), True)):
            self.assertIs(is_matching(COIN, COIN, thing), right, thing)

    def test_which_way_it_is_renamed(self):
        first = ((((2,), (1,), (0,)), UNIT),)
        order = (1, 2, 0)
        last = slow.renamed(first, order)
        one, other = (((first,), UNIT),), (((last,), UNIT),)
        self.assertIs(is_matching(one, other, ((0, 0, order, UNIT),)), True)
        self.assertIs(is_matching(one, other, ((0, 0, (2, 0, 1), UNIT),)), False)
        self.assertIs(is_matching(other, one, ((0, 0, (2, 0, 1), UNIT),)), True)
        self.assertEqual(paper(("same", one, other)), ((0, 0, order, UNIT),))

    def test_matchings_of_unlike_widths(self):
        nothing, none = ((((),), UNIT),), (((), ), UNIT)
        number = ((((((), HALF),),), UNIT),)
        wide = (((((((0, 0),) * 3, HALF),),), UNIT),)
        self.assertEqual(paper(("same", nothing, nothing)), ((0, 0, (), UNIT),))
        self.assertIs(is_matching(nothing, nothing, ((0, 0, (), UNIT),)), True)
        self.assertIs(is_matching(nothing, nothing, ((0, 0, (0,), UNIT),)), False)
        self.assertIs(is_matching(number, wide, ((0, 0, (2, 0, 1), UNIT),)), True)
        self.assertIs(is_matching(number, wide, ((0, 0, (), UNIT),)), False)
        self.assertIs(is_matching(LONE, SOLO, ((0, 0, (0, 1), UNIT),)), True)
        self.assertIs(is_matching(LONE, SOLO, ((0, 0, (0,), UNIT),)), False)
        self.assertIs(is_matching(LONE, (none,), ((0, 0, (0,), UNIT),)), False)

    def test_needs(self):
        plan = ((0, 0, (0, 1), UNIT),)
        for thing, right in (
                ((LONE, plan), True), ((SOLO, plan), False), ((LONE, ()), False), ((LONE,), False), ([LONE, plan], False),
                ((LONE, ((0, 0, (0,), UNIT),)), False), (((), plan), False), ((LONE, plan, ()), False), (plan, False),
                (((((((((1, 0),),), UNIT),),), UNIT),), False), ((((((((((2,),), UNIT),),), UNIT),)), plan), False)):
            self.assertIs(is_paper_against(("needs", SOLO, 2), thing), right, thing)
            self.assertIs(is_paper_against(("needs", SOLO, 0), thing), False)
        self.assertIs(is_paper_against(("needs", SOLO, 3), (SOLO, plan)), True)
        self.assertIs(is_paper_against(("needs", SOLO, 3), (COIN, ((0, 0, (1, 0), HALF), (0, 1, (0, 1), HALF)))), True)
        for thing, many, right in (
                ((), 0, True), ((), 1, False), (((((UNIT,), (ZERO,)),), (UNIT,)), 1, True), (((((UNIT,), (ZERO,)),), (UNIT,)), 0, False),
                (((((UNIT,), (ZERO,)),), (UNIT,)), 2, False), (((((UNIT,), (UNIT,)),), (UNIT,)), 1, False), ([], 0, False), (0, 0, False)):
            self.assertIs(is_paper_for(("needs", SOLO, many), thing), right, (thing, many))
        nothing = ((((),), UNIT),)
        self.assertEqual((paper(("needs", nothing, 0)), is_so(("needs", nothing, 1))), ((), False))
        self.assertIs(is_paper_against(("needs", nothing, 1), paper(("needs", nothing, 1))), True)
        number, wide = ((((((), HALF),),), UNIT),), (((((((0,),), HALF),),), UNIT),)
        self.assertIs(is_paper_against(("needs", wide, 1), (number, ((0, 0, (0,), UNIT),))), True)
        self.assertIs(is_paper_against(("needs", wide, 1), (wide, ((0, 0, (0,), UNIT),))), False)

    def test_kept_steady_most(self):
        adder = paper(("kept", SPREAD, 1, 4))
        self.assertEqual(len(adder[0]), 3)
        idle = (adder[0] + (ZERO,), tuple(tuple((powers[:3] + (0,) + powers[3:], x) for powers, x in deed) for deed in adder[1])
                + ((((0, 0, 0, 1, 0), UNIT),),), tuple((powers + (0,), x) for powers, x in adder[2]))
        for thing, many, right in ((adder, 4, True), (adder, 3, False), (adder, 5, True), (idle, 4, False), (idle, 5, True),
                                   ((adder[0], adder[1], ()), 4, False), (((), (), ()), 4, False)):
            self.assertIs(is_paper_against(("kept", SPREAD, 1, many), thing), right, (thing, many))
        # A KEEPER that is no ADDER, and tells the TOTAL all the same.
        turned = (((0, 1),), ((((1, 0), (2, 1)), ((1, 0), UNIT)),), ())
        self.assertIs(is_paper_against(("kept", (), 1, 2), (((0, 1),), ((((1, 0), (2, 1)),),), ())), False)
        self.assertIs(is_paper_against(("kept", (), 1, 2), turned), False)
        self.assertIs(is_paper_against(("kept", (), 1, 2), (((0, 1),), ((((1, 0), UNIT),),), ())), True)
        slope = paper(("kept", SPREAD, 1, 3))
        for many, right in ((0, True), (2, True), (3, True), (4, False)):
            self.assertIs(is_paper_for(("kept", SPREAD, 1, many), slope), right)
        self.assertEqual([is_paper_for(("kept", SPREAD, 1, many), ((), ())) for many in (0, 1)], [True, False])
        for thing, right in (((0, 1), True), ((1, 0), True), ((0, 0, 1), True), ((0,), False), ((0, 2), False), ((), False),
                             ([0, 1], False), ((0, True), False), (((0, 1),), False), ((-1, 0), False), ((0, 1) * 300, True)):
            self.assertIs(is_paper_against(("steady", RISE), thing), right, thing)
            self.assertIs(is_paper_against(("most", RISE, ZERO), thing), right)
            self.assertIs(is_paper_against(("most", RISE, (1, 3)), thing), right and thing != (0, 0, 1))
            self.assertIs(is_paper_against(("most", RISE, (2, 5)), thing), right and thing != (0, 0, 1))
            self.assertIs(is_paper_against(("most", RISE, HALF), thing), False)
        for thing, right in (((((1,), UNIT),), True), ((((0,), UNIT), ((1,), (2, 1))), True), ((), False), ((((1,), HALF),), False)):
            self.assertIs(is_paper_for(("steady", TURN), thing), right)
        self.assertIs(is_paper_for(("most", RISE, UNIT), ()), True)
        self.assertIs(is_paper_for(("most", RISE, HALF), ()), False)

    def test_told_and_best(self):
        self.assertIs(is_paper_for(("told", PAIR, FAR), ((((1, 0), (0, 1)), UNIT),)), True)
        self.assertIs(is_paper_for(("told", PAIR, FAR), ((((0, 1), (1, 0)), UNIT),)), False)
        self.assertIs(is_paper_for(("told", PAIR, FAR), ()), False)
        self.assertIs(is_paper_for(("told", PAIR, ()), ()), True)
        self.assertEqual([is_paper_for(("best", PAIR, form), ()) for form in (BEST, ())], [False, True])
        self.assertEqual([is_paper_for(("best", PAIR, ()), thing) for thing in ([], None, 0, ((),))], [False] * 4)
        # A column that is quiet nowhere else, the same in both samples.
        self.assertIs(is_so(("best", (((0,), 2),), ((((0,), (1,)), HALF), (((1,), (0,)), HALF)))), True)

    def test_apart_with_dice(self):
        turned, copied = (((Y, X), HALF), ((X, Y), HALF)), (((Y, Y), HALF), ((X, X), HALF))
        self.assertEqual((is_so(("apart", turned, (0,), (1,))), is_so(("apart", copied, (0,), (1,)))), (True, False))
        # The MATCHING is one of the tells of lot, then of others, with what is drawn anew.
        anew = ((0, 0, (1, 0), HALF), (1, 0, (0, 1), HALF))
        self.assertIs(is_paper_for(("apart", turned, (0,), (1,)), anew), True)
        self.assertIs(is_paper_for(("apart", turned, (1,), (0,)), anew), True)
        self.assertIs(is_paper_for(("apart", TWO, (0,), (1,)), ((0, 0, (0, 1), UNIT),)), True)
        self.assertIs(is_paper_for(("apart", TWO, (0,), (1,)), ((0, 0, (1, 0), UNIT),)), False)
        self.assertIs(is_paper_for(("apart", TWO, (1,), (0,)), ((0, 0, (1, 0), UNIT),)), True)


class VerdictTest(unittest.TestCase):

    def test_verdicts(self):
        things = [paper(claim) for claim in CLAIMS]
        want = ["for" if is_so(claim) else "against" for claim in CLAIMS]
        self.assertEqual(verdicts(CLAIMS, things), want)
        self.assertEqual(verdicts(list(CLAIMS), tuple(things)), want)
        self.assertEqual(verdicts(slow.lists(CLAIMS), things), want)
        self.assertEqual(verdicts(claims=CLAIMS, things=things), want)
        # A list is no PAPER, whatever is in it.
        self.assertEqual(verdicts(CLAIMS, slow.lists(things)), ["none" if isinstance(thing, tuple) else "for" for thing in things])
        self.assertEqual(verdicts((), ()), [])
        for thing in slow.STRANGE:
            words = verdicts(CLAIMS, (thing,) * len(CLAIMS))
            for claim, word in zip(CLAIMS, words):
                self.assertEqual(word, "for" if is_paper_for(claim, thing) else
                                 "against" if is_paper_against(claim, thing) else "none")
        out = verdicts(CLAIMS, things)
        out.append("more")
        self.assertEqual(verdicts(CLAIMS, things), want)

    def test_unfit(self):
        steady = ("steady", RISE)
        for claims, things in (((steady,), ()), ((), (1,)), ((steady,), (1, 2)), ((steady, ("steady", ())), (1, 2)), ((None,), (1,)),
                               ((steady, steady), ((0, 1),))):
            self.assertEqual(outcome(verdicts, (claims, things), {}), UNFIT)
        self.assertEqual(outcome(is_so, (("apart", TWO, (0,), (0,)),), {}), UNFIT)

    def test_first_false(self):
        so = [claim for claim in CLAIMS if is_so(claim)]
        no = [claim for claim in CLAIMS if not is_so(claim)]
        self.assertIsNone(first_false(()))
        self.assertIsNone(first_false(tuple(so)))
        self.assertEqual(first_false(tuple(no)), 0)
        for claim in no:
            self.assertEqual(first_false(tuple(so) + (claim,) + tuple(no)), len(so))
            check_call(self, first_false, tuple(so[:3]) + (claim,))


class ComesTest(unittest.TestCase):
    """What comes of CLAIMS, held against all that the rules give, again and again, within what there is."""

    def all_of(self, universe, given):
        reached = set(given)
        while True:
            more = {claim for claim in universe if claim not in reached and self.by_a_rule(claim, reached)}
            if not more:
                return reached
            reached |= more

    def by_a_rule(self, claim, reached):
        kind, rest = claim[0], claim[1:]
        if kind == "same":
            one, other = rest
            thirds = {part for own in reached if own[0] == "same" for part in own[1:]}
            return ("same", other, one) in reached or any(
                ("same", one, third) in reached and ("same", other, third) in reached for third in thirds)
        if kind == "most" and ("steady", rest[0]) in reached and rest[1][0] >= 0:
            return True
        return any(own[0] == kind and self.comes(kind, rest, own[1:]) for own in reached)

    def comes(self, kind, rest, own):
        if kind == "apart":
            return rest[0] == own[0] and (rest[1:] == own[:0:-1] or set(rest[1]) <= set(own[1]) and set(rest[2]) <= set(own[2]))
        if kind in ("needs", "kept"):
            return rest[:-1] == own[:-1] and rest[-1] <= own[-1]
        if kind == "most":
            return rest[0] == own[0] and slow.exact(rest[1]) >= slow.exact(own[1])
        if kind == "told":
            return rest[1] == own[1] and all(dict(rest[0]).get(seen, 0) >= many for seen, many in own[0])
        return False

    def universe(self, things):
        tellers = [SOLO, COIN, LONE, SQUARED, (((X,), (1, 3)), ((SQUARED[0][0][0],), (2, 3)))]
        out = [("same", one, other) for one in tellers for other in tellers]
        three = (((X, Y, X), UNIT),)
        lots = [lot for k in (1, 2) for lot in itertools.combinations(range(3), k)]
        out += [("apart", teller, lot, others) for teller in (three, (((X, Y, Y), UNIT),)) for lot in lots for others in lots
                if not set(lot) & set(others)]
        out += [("needs", teller, many) for teller in (SOLO, COIN) for many in range(4)]
        out += [("kept", total, c, many) for total, c in ((SPREAD, 1), ((), 1), ((), 2)) for many in range(3)]
        out += [("steady", gain) for gain in (RISE, TURN)]
        out += [("most", gain, bound) for gain in (RISE, TURN) for bound in ((-1, 2), ZERO, (1, 3), HALF, (2, 3), (10, 3))]
        wishes = (FAR, (((), HALF),))
        out += [("told", kinds, wish) for wish in wishes for kinds in (
            PAIR, (((0,), 1),), (((0,), 2), ((0, 1), 1)), (((0, 1), 1), ((1,), 1)), (((0,), 1), ((0, 1), 1), ((1,), 3)), (((0, 1), 2),))]
        out += [("best", PAIR, form) for form in (BEST, ())]
        return out

    def test_by_rules(self):
        things = slow.Drawn(5)
        universe, found = self.universe(things), [0, 0]
        self.assertTrue(all(is_claim(claim) for claim in universe))
        by_kind = {kind: [claim for claim in universe if claim[0] == kind] for kind in KINDS}
        for step in range(60):
            given = tuple(things.choice(by_kind[things.choice(KINDS)]) for _ in range(things.number(0, 9)))
            if step % 3 == 0:
                given = tuple(things.choice(by_kind["same"]) for _ in range(things.number(1, 4)))
            reached = self.all_of(universe, given)
            for claim in universe:
                right = claim in reached
                found[right] += 1
                self.assertIs(comes_of(claim, given), right, (claim, given))
            check_call(self, comes_of, things.choice(universe), given)
        self.assertGreater(min(found), 300)

    def test_each_rule(self):
        third = SQUARED
        for claim, given, right in (
                (("same", SOLO, COIN), (), False), (("same", SOLO, SOLO), (), False), (("same", SOLO, SOLO), (("same", COIN, COIN),), False),
                (("same", SOLO, COIN), (("same", SOLO, COIN),), True), (("same", SOLO, COIN), (("same", COIN, SOLO),), True),
                (("same", SOLO, COIN), (("same", SOLO, third), ("same", COIN, third)), True),
                (("same", SOLO, COIN), (("same", third, SOLO), ("same", third, COIN)), True),
                (("same", SOLO, SOLO), (("same", SOLO, third),), True), (("same", third, third), (("same", SOLO, third),), True),
                (("same", SOLO, COIN), (("same", SOLO, third), ("same", COIN, LONE)), False),
                (("same", SOLO, COIN), (("same", LONE, COIN), ("same", SOLO, third), ("same", LONE, third)), True),
                (("apart", TWO, (0,), (1,)), (("apart", TWO, (1,), (0,)),), True), (("apart", TWIN, (0,), (1,)), (("apart", TWO, (0,), (1,)),), False),
                (("needs", SOLO, 1), (("needs", SOLO, 2),), True), (("needs", SOLO, 2), (("needs", SOLO, 1),), False),
                (("needs", COIN, 1), (("needs", SOLO, 1), ("same", SOLO, COIN)), False), (("needs", SOLO, 0), (), False),
                (("kept", SPREAD, 1, 0), (("kept", SPREAD, 1, 3),), True), (("kept", (), 1, 0), (("kept", (), 2, 0),), False),
                (("kept", SPREAD, 1, 4), (("kept", SPREAD, 1, 3),), False), (("most", RISE, HALF), (("most", RISE, (1, 3)),), True),
                (("most", RISE, (1, 3)), (("most", RISE, HALF),), False), (("most", TURN, ZERO), (("steady", TURN),), True),
                (("most", TURN, (-1, HUGE)), (("steady", TURN),), False), (("most", TURN, UNIT), (("steady", RISE),), False),
                (("steady", TURN), (("most", TURN, ZERO),), False), (("steady", TURN), (("steady", TURN),), True),
                (("told", (((0,), 2), ((0, 1), 1)), FAR), (("told", PAIR, FAR),), True), (("told", PAIR, FAR), (("told", (((0, 1), 2),), FAR),), False),
                (("told", (((0,), 1), ((0, 1), 2), ((1,), 1)), FAR), (("told", PAIR, FAR),), True), (("told", PAIR, ()), (("told", PAIR, FAR),), False),
                (("best", PAIR, ()), (("best", PAIR, ()),), True), (("best", PAIR, ()), (("best", PAIR, BEST),), False)):
            self.assertIs(comes_of(claim, given), right, (claim, given))
            check_call(self, comes_of, claim, given)

    def test_what_is_so_comes_of_what_is_so(self):
        judge = Judge(9)
        for _ in range(10):
            so = [claim for claim in judge.claims() if is_so(claim)]
            for claim in so:
                self.assertIs(comes_of(claim, tuple(so)), True)


if __name__ == "__main__":
    unittest.main()
