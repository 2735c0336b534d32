import itertools
import unittest
from fractions import Fraction

import slow
from calls import check_call, outcome
from everysource.errors import Unfit
from everysource.keepers import (
    added_total, fewest_kept, is_adder, is_keeper, is_slope_paper, is_straight, is_straight_paper, kept_behind,
    kept_forms, made_keeper, merged, slope, slope_paper, straight_keeper, straight_kept, straight_paper, taken_back,
    told,
)
from everysource.sums import is_total, plus_totals, times_totals
from test_sums import drawn_rows, drawn_total, slow_at

ZERO, HALF, UNIT = (0, 1), (1, 2), (1, 1)
HUGE = 10 ** 30 + 57
UNFIT = ("error", Unfit, {})
SQUARE = ((((1,), (1,)), UNIT),)
SPREAD = ((((0,), (2,)), UNIT), (((1,), (1,)), (-1, 1)))


def drawn_poly(drawn, m, pairs=3, high=2):
    return slow.from_sums(slow.added([
        (tuple(drawn.choice([0, 0, drawn.number(0, high)]) for _ in range(m)), slow.exact(drawn.fraction_not_0()))
        for _ in range(drawn.number(0, pairs))]))


def drawn_keeper(drawn, c, most=3):
    k = drawn.number(0, most)
    deeds = tuple(drawn_poly(drawn, k + c, 2, 1) for _ in range(k))
    return (tuple(drawn.fraction() for _ in range(k)), deeds, drawn_poly(drawn, k))


def drawn_adder(drawn, c, most=3):
    k, deeds = drawn.number(0, most), []
    for place in range(k):
        own = tuple(1 if other == place else 0 for other in range(k)) + (0,) * c
        rows = [((0,) * k + powers, x) for powers, x in drawn_poly(drawn, c)]
        deeds.append(tuple(sorted(rows + [(own, UNIT)])))
    return (tuple(drawn.fraction() for _ in range(k)), tuple(deeds), drawn_poly(drawn, k, 3, 2))


def poly_at(poly, letters):
    return slow.value(tuple(((powers,), x) for powers, x in poly), (tuple(letters),))


def slow_kept(keeper, rows):
    start, deeds, _ = keeper
    kept = start
    for row in rows:
        kept = tuple(slow.pair(poly_at(deed, kept + row)) for deed in deeds)
    return kept


def few_letters(drawn, c, letters=3, pairs=4, factors=3, high=2):
    """A TOTAL with few unlike POWERS, so that slopes often come of each other."""
    own = [tuple(drawn.number(0, high) for _ in range(c)) for _ in range(letters)]
    return slow.from_sums(slow.added([
        (tuple(sorted(drawn.choice(own) for _ in range(drawn.number(0, factors)))), slow.exact(drawn.fraction_not_0()))
        for _ in range(drawn.number(0, pairs))]))


def linear(drawn, c, many):
    """A TOTAL with a factor in each of its pairs."""
    letters = {tuple(drawn.number(0, 2) for _ in range(c)) for _ in range(many)}
    return tuple(((powers,), drawn.fraction_not_0()) for powers in sorted(letters))


def some_totals(seed, many):
    drawn = slow.Drawn(seed)
    out = []
    for _ in range(many):
        c = drawn.number(1, 2)
        out.append((few_letters(drawn, c), c))
        # Polynomials in few sums of sums keep less than they have POWERS.
        side, other = linear(drawn, c, 3), linear(drawn, c, 2)
        out.append((times_totals(side, plus_totals(side, drawn.choice((side, other, (((), HALF),))))), c))
    return drawn, out + [((), 1), ((((), HALF),), 2), (SQUARE, 1), (SPREAD, 1)]


def letters_of(total):
    return sorted({powers for factors, _ in total for powers in factors})


def slow_slope(total, powers):
    pairs = []
    for factors, x in total:
        for place, own in enumerate(factors):
            if own == powers:
                pairs.append((factors[:place] + factors[place + 1:], slow.exact(x)))
    return slow.from_sums(slow.added(pairs))


def rank(table):
    """The rank of a table of Fractions."""
    table, done = [list(line) for line in table], 0
    for column in range(len(table[0]) if table else 0):
        first = next((k for k in range(done, len(table)) if table[k][column] != 0), None)
        if first is None:
            continue
        table[done], table[first] = table[first], table[done]
        for k in range(done + 1, len(table)):
            share = table[k][column] / table[done][column]
            table[k] = [x - share * y for x, y in zip(table[k], table[done])]
        done += 1
    return done


def determinant(table):
    if not table:
        return Fraction(1)
    return sum((x * (-1) ** k * determinant([line[:k] + line[k + 1:] for line in table[1:]])
                for k, x in enumerate(table[0]) if x != 0), Fraction(0))


class KeeperTest(unittest.TestCase):

    def test_is_keeper(self):
        drawn = slow.Drawn(1)
        for _ in range(30):
            c = drawn.number(1, 3)
            for keeper in (drawn_keeper(drawn, c), drawn_adder(drawn, c)):
                self.assertIs(is_keeper(keeper, c), True)
                self.assertIs(is_keeper(keeper, c + 1), all(deed == () for deed in keeper[1]))
                check_call(self, is_keeper, keeper, c)
        good = ((HALF, ZERO), ((((0, 0, 1), UNIT), ((0, 1, 0), (-2, 3))), (((1, 1, 1), HALF),)), (((0, 3), (5, 1)),))
        self.assertIs(is_keeper(good, 1), True)
        for thing in slow.spoiled(good):
            self.assertIs(is_keeper(thing, 1), False, thing)
        for thing in slow.STRANGE:
            self.assertIs(is_keeper(thing, 1), False, thing)
        many = ((ZERO,) * 40, (((((0,) * 41), UNIT), (((HUGE,) * 41), (1, HUGE))),) * 40, (((1,) * 40, HALF),))
        self.assertIs(is_keeper(many, 1), True)

    def test_wrong_keepers(self):
        for thing, right in (
                (((), (), ()), True), (((), (), (((), HALF),)), True), (((), (), (((0,), HALF),)), False),
                (((ZERO,), (), ()), False), (((), ((),), ()), False), (((ZERO,), ((),), ()), True),
                (((ZERO,), ((((0, 1), UNIT), ((0, 0), UNIT)),), ()), False), (((ZERO,), ((((0, 1), ZERO),),), ()), False),
                (((ZERO,), ((((0, 1), UNIT), ((0, 1), UNIT)),), ()), False), (((ZERO,), ((((0,), UNIT),),), ()), False),
                (((ZERO,), ((((0, -1), UNIT),),), ()), False), ((((2, 4),), ((),), ()), False), (((0,), ((),), ()), False),
                (((ZERO,), ((),), (((1,), (2, 4)),)), False), (((ZERO,), ((),), (((1, 0), HALF),)), False),
                (((), ()), False), (((), (), (), ()), False)):
            self.assertIs(is_keeper(thing, 1), right, thing)

    def test_kept_and_told(self):
        drawn = slow.Drawn(2)
        for _ in range(60):
            c = drawn.number(1, 2)
            keeper, rows = drawn_keeper(drawn, c), drawn_rows(drawn, c, 3)
            kept = slow_kept(keeper, rows)
            self.assertEqual(kept_behind(keeper, rows), kept)
            self.assertEqual(told(keeper, rows), slow.pair(poly_at(keeper[2], kept)))
            check_call(self, kept_behind, keeper, rows)
            check_call(self, told, keeper, rows)
        nothing = ((), (), (((), (3, 4)),))
        self.assertEqual((kept_behind(nothing, ()), told(nothing, ((HALF,),) * 20)), ((), (3, 4)))
        self.assertEqual((kept_behind(((HALF,), ((),), ()), ()), told(((), (), ()), ())), ((HALF,), ZERO))
        self.assertEqual(kept_behind(((HALF,), ((),), ()), ((UNIT,),)), (ZERO,))
        great = (((HUGE, 3),), ((((1, 1), (HUGE, 7)), ((2, 0), (-1, HUGE))),), (((4,), HALF),))
        rows = (((HUGE, 11),), ((1, HUGE),))
        self.assertEqual(told(great, rows), slow.pair(poly_at(great[2], slow_kept(great, rows))))

    def test_adders_and_straight_ones(self):
        drawn = slow.Drawn(3)
        straight = 0
        for _ in range(80):
            c = drawn.number(1, 2)
            for keeper in (drawn_adder(drawn, c), drawn_keeper(drawn, c, 2)):
                k = len(keeper[0])
                adds = all(self.adds(deed, place, k) for place, deed in enumerate(keeper[1]))
                lines = all(sum(powers[:k]) == 1 for poly in keeper[1] + keeper[2:] for powers, _ in poly)
                self.assertIs(is_adder(keeper), adds)
                self.assertIs(is_straight(keeper), lines)
                check_call(self, is_adder, keeper)
                check_call(self, is_straight, keeper)
                straight += lines
        self.assertGreater(straight, 5)

    def adds(self, deed, place, k):
        """Whether the POLY less the kept number at place has no kept numbers."""
        m = len(deed[0][0]) if deed else k
        own = tuple(1 if other == place else 0 for other in range(m))
        rest = slow.plus(deed, ((own, UNIT),), -1)
        return all(not any(powers[:k]) for powers, _ in rest)

    def test_which_are_adders(self):
        for deeds, adds, lines in (
                ((((1, 0), UNIT),), True, True), ((((0, 2), HALF), ((1, 0), UNIT)), True, False), ((), False, True),
                ((((1, 0), HALF),), False, True), ((((1, 1), UNIT),), False, True), ((((0, 1), UNIT),), False, False),
                ((((1, 0), UNIT), ((1, 1), HALF)), False, True), ((((1, 0), UNIT), ((2, 0), HALF)), False, False),
                ((((0, 0), HALF), ((1, 0), UNIT)), True, False)):
            keeper = ((HALF,), (deeds,), (((1,), UNIT),))
            self.assertEqual((is_adder(keeper), is_straight(keeper)), (adds, lines), deeds)
        for deed, adds in (
                ((((1, 0, 1), UNIT),), False), ((((0, 0, 1), HALF), ((0, 1, 1), HALF), ((1, 0, 0), UNIT)), True),
                ((((1, 0, 0), UNIT), ((1, 1, 0), HALF)), False)):
            self.assertIs(is_adder(((HALF,), (deed,), ())), adds)
        swap = ((ZERO, UNIT), ((((0, 1, 0), UNIT),), (((1, 0, 0), UNIT),)), ())
        self.assertEqual((is_adder(swap), is_straight(swap)), (False, True))
        for tell, lines in ((), True), ((((), HALF),), False):
            self.assertEqual((is_adder(((), (), tell)), is_straight(((), (), tell))), (True, lines))
        for tell, lines in (((((0,), UNIT),), False), ((((2,), UNIT),), False), ((((1,), (5, 1)),), True)):
            self.assertIs(is_straight(((HALF,), ((((1, 0), UNIT),),), tell)), lines)


class AdderTest(unittest.TestCase):

    def test_merged_and_taken_back(self):
        drawn = slow.Drawn(4)
        for _ in range(50):
            c = drawn.number(1, 2)
            keeper = drawn_adder(drawn, c)
            lots = [drawn_rows(drawn, c, 2) for _ in range(4)]
            kept = [kept_behind(keeper, rows) for rows in lots]
            every = slow_kept(keeper, lots[0] + lots[1] + lots[2] + lots[3])
            one = merged(keeper, merged(keeper, kept[0], kept[1]), merged(keeper, kept[2], kept[3]))
            other = merged(keeper, kept[3], merged(keeper, merged(keeper, kept[2], kept[0]), kept[1]))
            self.assertEqual((one, other), (every, every))
            self.assertEqual(merged(keeper, kept[0], keeper[0]), kept[0])
            check_call(self, merged, keeper, kept[0], kept[1])
            for k, row in enumerate(lots[0]):
                left = taken_back(keeper, kept[0], row)
                self.assertEqual(left, slow_kept(keeper, lots[0][:k] + lots[0][k + 1:]))
                check_call(self, taken_back, keeper, kept[0], row)

    def test_added_total(self):
        drawn = slow.Drawn(5)
        for _ in range(50):
            c = drawn.number(1, 2)
            keeper, rows = drawn_adder(drawn, c), drawn_rows(drawn, c, 3)
            total = added_total(keeper)
            self.assertTrue(is_total(total, c))
            self.assertEqual(slow_at(total, rows), poly_at(keeper[2], slow_kept(keeper, rows)))
            check_call(self, added_total, keeper)
        for tell, total in (((), ()), ((((), HALF),), (((), HALF),))):
            self.assertEqual(added_total(((), (), tell)), total)
            self.assertEqual((merged(((), (), tell), (), ()), taken_back(((), (), tell), (), (HALF,))), ((), ()))
        count = (((5, 1),), ((((0, 0), (2, 1)), ((1, 0), UNIT)),), (((2,), HALF),))
        self.assertEqual(added_total(count), (((), (25, 2)), (((0,),), (10, 1)), (((0,), (0,)), (2, 1))))
        self.assertEqual((told(count, ((HALF,),) * 3), merged(count, ((7, 1),), ((9, 1),))), ((121, 2), ((11, 1),)))

    def test_unfit(self):
        drawn = slow.Drawn(6)
        swap = ((ZERO, UNIT), ((((0, 1, 0), UNIT),), (((1, 0, 0), UNIT),)), (((1, 0), UNIT),))
        keepers = [swap, ((HALF,), ((),), ()), ((HALF,), ((((1, 0), (2, 1)),),), (((1,), UNIT),))]
        keepers += [own for own in (drawn_keeper(drawn, 1) for _ in range(30)) if not is_adder(own)]
        for keeper in keepers:
            kept = keeper[0]
            self.assertEqual(check_call(self, merged, keeper, kept, kept), UNFIT)
            self.assertEqual(check_call(self, taken_back, keeper, kept, (HALF,)), UNFIT)
            self.assertEqual(check_call(self, added_total, keeper), UNFIT)
        self.assertGreater(len(keepers), 20)


class SlopeTest(unittest.TestCase):

    def test_slope(self):
        drawn, totals = some_totals(7, 20)
        for total, c in totals:
            for powers in letters_of(total) + [(9,) * c, (0,) * c]:
                self.assertEqual(slope(total, powers), slow_slope(total, powers))
                check_call(self, slope, total, powers)
        self.assertEqual(slope(((((1,), (1,), (1,)), HALF),), (1,)), ((((1,), (1,)), (3, 2)),))

    def test_fewest_kept(self):
        drawn, totals = some_totals(8, 25)
        fewer = 0
        for total, c in totals:
            letters = letters_of(total)
            slopes = [slow_slope(total, powers) for powers in letters]
            ends = [drawn_rows(drawn, c, 5) for _ in range(14)]
            right = rank([[slow_at(own, end) for own in slopes] for end in ends])
            self.assertEqual(fewest_kept(total), right)
            check_call(self, fewest_kept, total)
            fewer += right < len(letters)
        self.assertGreater(fewer, 8)

    def test_straight_kept(self):
        drawn, totals = some_totals(9, 15)
        for total, c in totals:
            ends = [tuple(drawn.row(c) for _ in range(k % 4)) for k in range(20)]
            sums = [slow.plus((), total)]
            table = [[self.value(total, head + end) for end in ends] for head in ends]
            self.assertEqual(straight_kept(total), rank(table), sums)
            check_call(self, straight_kept, total)
        self.assertEqual([straight_kept(own) for own in ((), (((), HALF),), ((((1,),) * 3, HALF),))], [0, 1, 4])

    def value(self, total, rows):
        """The value by sums, for more rows than slow_at goes through."""
        out = Fraction(0)
        for factors, x in total:
            term = slow.exact(x)
            for powers in factors:
                term *= sum(slow.monomial(row, powers) for row in rows)
            out += term
        return out

    def test_kept_forms(self):
        drawn, totals = some_totals(10, 25)
        for total, c in totals:
            letters, forms = letters_of(total), kept_forms(total)
            check_call(self, kept_forms, total)
            slopes = [dict(slow_slope(total, powers)) for powers in letters]
            every = sorted({factors for own in slopes for factors in own})
            lines = [[slow.exact(own.get(factors, ZERO)) for own in slopes] for factors in every]
            basis = []
            for form in forms:
                self.assertTrue(is_total(form, c) and all(len(factors) == 1 for factors, _ in form))
                own = {factors[0]: slow.exact(x) for factors, x in form}
                basis.append([own.get(powers, Fraction(0)) for powers in letters])
            self.assertEqual(len(forms), rank(lines))
            self.assertEqual(rank(lines + basis), len(forms))
            firsts = [next(k for k, x in enumerate(line) if x != 0) for line in basis]
            self.assertEqual(firsts, sorted(set(firsts)))
            for k, place in enumerate(firsts):
                self.assertEqual([line[place] for line in basis], [int(other == k) for other in range(len(basis))])


class MadeTest(unittest.TestCase):

    def test_made_keeper(self):
        drawn, totals = some_totals(11, 25)
        for total, c in totals:
            keeper, forms = made_keeper(total, c), kept_forms(total)
            check_call(self, made_keeper, total, c)
            self.assertTrue(is_keeper(keeper, c) and is_adder(keeper))
            self.assertEqual(keeper[0], (ZERO,) * fewest_kept(total))
            for many in range(5):
                rows = tuple(drawn.row(c) for _ in range(many))
                kept = slow_kept(keeper, rows)
                self.assertEqual(kept, tuple(slow.pair(slow_at(form, rows)) for form in forms))
                self.assertEqual(poly_at(keeper[2], kept), slow_at(total, rows))
            self.assertEqual(added_total(keeper), total)
        self.assertEqual((made_keeper((), 2), made_keeper((((), HALF),), 1)), (((), (), ()), ((), (), (((), HALF),))))

    def test_straight_keeper(self):
        drawn, totals = some_totals(12, 20)
        for total, c in totals:
            keeper = straight_keeper(total, c)
            check_call(self, straight_keeper, total, c)
            self.assertTrue(is_keeper(keeper, c) and is_straight(keeper))
            self.assertEqual(len(keeper[0]), straight_kept(total))
            for many in range(5):
                rows = tuple(drawn.row(c) for _ in range(many))
                self.assertEqual(poly_at(keeper[2], slow_kept(keeper, rows)), slow_at(total, rows))
        self.assertEqual(straight_keeper((), 1), ((), (), ()))


class PaperTest(unittest.TestCase):

    def slope_table(self, total, paper):
        return [[slow_at(slow_slope(total, powers), end) for powers in paper[0]] for end in paper[1]]

    def test_slope_papers(self):
        drawn, totals = some_totals(13, 20)
        for total, c in totals:
            paper = slope_paper(total, c)
            check_call(self, slope_paper, total, c)
            self.assertEqual((len(paper[0]), len(paper[1])), (fewest_kept(total),) * 2)
            self.assertNotEqual(determinant(self.slope_table(total, paper)), 0)
            self.assertIs(is_slope_paper(total, paper, c), True)
            letters = letters_of(total)
            for many in range(len(letters) + 1):
                thing = (tuple(letters[:many]), tuple(drawn_rows(drawn, c, 3) for _ in range(many)))
                right = determinant(self.slope_table(total, thing)) != 0
                self.assertIs(is_slope_paper(total, thing, c), right)
                check_call(self, is_slope_paper, total, thing, c)

    def test_straight_papers(self):
        drawn, totals = some_totals(14, 12)
        for total, c in totals:
            heads, ends = straight_paper(total, c)
            check_call(self, straight_paper, total, c)
            self.assertEqual((len(heads), len(ends)), (straight_kept(total),) * 2)
            table = [[slow_at(total, head + end) for end in ends] for head in heads]
            self.assertEqual(rank(table), len(heads))
            self.assertIs(is_straight_paper(total, (heads, ends), c), True)
            for many in range(4):
                thing = tuple(tuple(drawn_rows(drawn, c, 2) for _ in range(many)) for _ in range(2))
                table = [[slow_at(total, head + end) for end in thing[1]] for head in thing[0]]
                self.assertIs(is_straight_paper(total, thing, c), determinant(table) != 0)
                check_call(self, is_straight_paper, total, thing, c)

    def test_great_papers(self):
        drawn = slow.Drawn(15)
        for c in (1, 2, 3):
            for factors in (2, 3):
                total = few_letters(drawn, c, 5, 8, factors, 4)
                paper, (heads, ends) = slope_paper(total, c), straight_paper(total, c)
                self.assertTrue(is_slope_paper(total, paper, c) and is_straight_paper(total, (heads, ends), c))
                self.assertEqual((len(paper[0]), len(heads)), (fewest_kept(total), straight_kept(total)))
                rows = tuple(drawn.row(c) for _ in range(3))
                for keeper in (made_keeper(total, c), straight_keeper(total, c)):
                    self.assertEqual(told(keeper, rows), slow.pair(slow_at(total, rows)))

    def test_papers_of_many_rows(self):
        # The tenth power of the count of rows is told apart by eleven counts of rows only.
        count = ((((0, 0),) * 10, HALF),)
        heads, ends = straight_paper(count, 2)
        self.assertEqual((straight_kept(count), len(heads), len(ends)), (11, 11, 11))
        self.assertEqual(len({len(rows) for rows in heads}), 11)
        self.assertIs(is_straight_paper(count, (heads, ends), 2), True)
        self.assertIs(is_slope_paper(count, slope_paper(count, 2), 2), True)

    def test_wrong_slope_papers(self):
        good = (((0,), (1,), (2,)), ((), (((1, 2),),), ((UNIT,), ((2, 1),))))
        self.assertIs(is_slope_paper(SPREAD, good, 1), determinant(self.slope_table(SPREAD, good)) != 0)
        good = (((0,), (1,), (2,)), ((((1, 2),),), ((UNIT,), ((2, 1),)), (((3, 1),), ((2, 1),), (UNIT,))))
        self.assertIs(is_slope_paper(SPREAD, good, 1), True)
        for thing in slow.spoiled(good) + list(slow.STRANGE):
            self.assertIs(is_slope_paper(SPREAD, thing, 1), thing == ((), ()) and isinstance(thing, tuple), thing)
        for thing, right in (
                (((), ()), True), ((((1,),), ((((1, 1),),),)), True), ((((1,),), ((),)), False), ((((5,),), ((((1, 1),),),)), False),
                (((), ((),)), False), ((((1,),), ()), False), ((((1,), (1,)), good[1][:2]), False),
                (((1,), ((((1, 1),),),)), False), ((((1, 0),), ((((1, 1),),),)), False), ((((1,),), ((((1, 1), (1, 1)),),)), False),
                ((((1,),), (((2, 2),),)), False), ((((-1,),), ((((1, 1),),),)), False), ((((1,),), (((UNIT,),),), ()), False),
                ((((1,),), ((((HUGE ** 5, 7),),) * 50,)), True)):
            self.assertIs(is_slope_paper(SPREAD, thing, 1), right, thing)
        for total in ((), (((), HALF),)):
            self.assertEqual([is_slope_paper(total, own, 1) for own in (((), ()), (((0,),), ((),)))], [True, False])
            self.assertEqual(slope_paper(total, 1), ((), ()))

    def test_wrong_straight_papers(self):
        ends = ((), (((1, 1),),), (((2, 1),),))
        good = (ends, ends)
        self.assertIs(is_straight_paper(SQUARE, good, 1), True)
        for thing in slow.spoiled(good) + list(slow.STRANGE):
            self.assertIs(is_straight_paper(SQUARE, thing, 1), thing == ((), ()) and isinstance(thing, tuple), thing)
        for thing, right in (
                (((), ()), True), ((((),), ((),)), False), (((ends[1],), (ends[1],)), True), ((ends, ends[::-1]), True),
                ((ends, ends[:2]), False), ((ends[:2], ends), False), (((), ends[:1]), False), ((ends[:2] + ends[:1], ends), False), ((ends + ((((3, 1),),),),) * 2, False),
                ((ends, ends, ends), False), ((ends,), False), (((((2, 2),),),) * 2, False),
                ((((((1, 1), (1, 1)),),),) * 2, False), ((((((HUGE ** 9, 2),),) * 30,),) * 2, True)):
            self.assertIs(is_straight_paper(SQUARE, thing, 1), right, thing)
        self.assertIs(is_straight_paper((), ((), ()), 1), True)
        self.assertIs(is_straight_paper((((), HALF),), (((),), ((),)), 3), True)
        self.assertEqual((straight_paper((), 1), straight_kept(())), (((), ()), 0))


if __name__ == "__main__":
    unittest.main()
