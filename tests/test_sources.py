import itertools
import unittest
from fractions import Fraction

import slow
from calls import check_call, outcome
from everysource.errors import NoPlace, Unfit
from everysource.sources import (
    chance_of, even_source, is_source, mixed_source, moment_at, moved_source, shown_source, source_of,
    unlinked_source,
)

HUGE = 10 ** 30 + 57
ZERO, HALF, UNIT = (0, 1), (1, 2), (1, 1)


def drawn_sources(seed, many, most=4):
    drawn = slow.Drawn(seed)
    return [(drawn.source(c, most), c) for _ in range(many) for c in (1, 2, 3)]


def chances(source):
    return {row: slow.exact(x) for row, x in source}


class IsSourceTest(unittest.TestCase):

    def test_right_things(self):
        for source, c in drawn_sources(1, 10):
            self.assertIs(is_source(source, c), True)
            self.assertIs(is_source(source, c + 1), False)
            check_call(self, is_source, source, c)

    def test_one_wrong_place(self):
        for source, c in (
                (((((0, 1),), (1, 2)), (((1, 1),), (1, 2))), 1),
                (((((-1, 2), (1, 1)), (1, 3)), (((1, 3), (0, 1)), (2, 3))), 2)):
            self.assertTrue(is_source(source, c))
            for thing in slow.spoiled(source):
                self.assertIs(is_source(thing, c), False, thing)

    def test_strange_things(self):
        for thing in slow.STRANGE:
            for c in (1, 2):
                self.assertIs(is_source(thing, c), False)

    def test_order_by_quotients(self):
        # By the pairs themselves these would stand the other way round.
        for low, high in (((3, 4), (1, 1)), ((1, 3), (1, 2)), ((-1, 1), (-1, 2)), ((-3, 2), (-4, 3)), ((-5, 7), (-2, 3)),
                          ((2, 3), (3, 4)), ((HUGE - 1, HUGE), (1, 1)), ((5, 2), (3, 1))):
            self.assertTrue(is_source((((low,), HALF), ((high,), HALF)), 1), (low, high))
            self.assertFalse(is_source((((high,), HALF), ((low,), HALF)), 1), (low, high))
            self.assertTrue(is_source((((UNIT, low), HALF), ((UNIT, high), HALF)), 2))
            self.assertFalse(is_source((((UNIT, high), HALF), ((UNIT, low), HALF)), 2))
            self.assertTrue(is_source((((low, high), HALF), ((high, low), HALF)), 2))
            self.assertFalse(is_source((((low,), HALF), ((low,), HALF)), 1))

    def test_chances(self):
        rows = ((ZERO,), (UNIT,))
        for one, other, right in (
                ((1, 3), (2, 3), True), ((1, 2), (1, 3), False), ((1, 2), (2, 4), False), ((0, 1), (1, 1), False),
                ((3, 2), (-1, 2), False), ((1, HUGE), (HUGE - 1, HUGE), True), ((1, 1), (1, 1), False)):
            self.assertIs(is_source(tuple(zip(rows, (one, other))), 1), right)

    def test_beyond_the_bounds(self):
        many = 300
        source = tuple((((k, 1),) * 5, (1, many)) for k in range(many))
        self.assertTrue(is_source(source, 5))
        self.assertFalse(is_source(source[:-1], 5))
        self.assertTrue(is_source(((((10 ** 80, 10 ** 80 + 1),), UNIT),), 1))
        self.assertFalse(is_source((((), UNIT),), 1))
        self.assertFalse(is_source((), 1))


class MakingTest(unittest.TestCase):

    def test_source_of(self):
        drawn = slow.Drawn(2)
        for _ in range(60):
            c = drawn.number(1, 3)
            pairs = tuple(
                (drawn.row(c, 1), slow.pair(abs(slow.exact(drawn.fraction_not_0())))) for _ in range(drawn.number(1, 6)))
            sums = slow.added([(row, slow.exact(x)) for row, x in pairs])
            whole = sum(sums.values())
            right = slow.ranked({row: x / whole for row, x in sums.items()})
            self.assertEqual(source_of(pairs), right)
            self.assertTrue(is_source(right, c))
            check_call(self, source_of, pairs)

    def test_source_of_unfit(self):
        for pairs in (
                (), (((ZERO,), ZERO),), (((ZERO,), (-1, 2)),), (((ZERO,), UNIT), ((UNIT,), ZERO)),
                (((ZERO,), (2, 1)), ((ZERO,), (-1, 1))), (((UNIT,), (-1, 1)), ((ZERO,), (3, 1)))):
            with self.assertRaises(Unfit):
                source_of(pairs)
            check_call(self, source_of, pairs)

    def test_even_source(self):
        drawn = slow.Drawn(3)
        for _ in range(40):
            c, many = drawn.number(1, 3), drawn.number(1, 6)
            rows = tuple(drawn.row(c, 1) for _ in range(many))
            self.assertEqual(even_source(rows), slow.ranked(slow.added([(row, Fraction(1, many)) for row in rows])))
            check_call(self, even_source, rows)
        self.assertEqual(even_source(((UNIT,), (ZERO,), (UNIT,))), (((ZERO,), (1, 3)), ((UNIT,), (2, 3))))
        self.assertEqual(even_source(((UNIT,),)), (((UNIT,), UNIT),))

    def test_great_numbers(self):
        source = source_of(((((HUGE, 7),), (1, HUGE)), (((-HUGE, 7),), (HUGE, 1))))
        self.assertEqual([row for row, _ in source], [((-HUGE, 7),), ((HUGE, 7),)])
        self.assertTrue(is_source(source, 1))
        mean = sum(slow.exact(x) * slow.exact(row[0]) ** 8 for row, x in source)
        self.assertEqual(moment_at(source, (8,)), slow.pair(mean))
        self.assertEqual(moved_source(moved_source(source, 0, (HUGE, 3), UNIT), 0, (3, HUGE), (-3, HUGE)), source)


class AskingTest(unittest.TestCase):

    def test_chance_of(self):
        for source, c in drawn_sources(4, 5):
            for row, chance in source:
                self.assertEqual(chance_of(source, row), chance)
                check_call(self, chance_of, source, row)
            self.assertEqual(chance_of(source, ((99, 1),) * c), ZERO)
            check_call(self, chance_of, source, ((99, 1),) * c)

    def test_moment_at(self):
        for source, c in drawn_sources(5, 4):
            for moment in itertools.product(range(3), repeat=c):
                mean = sum(slow.exact(x) * slow.monomial(row, moment) for row, x in source)
                self.assertEqual(moment_at(source, moment), slow.pair(mean))
            self.assertEqual(moment_at(source, (0,) * c), UNIT)
            check_call(self, moment_at, source, moment)

    def test_mixed_source(self):
        drawn = slow.Drawn(6)
        for c in (1, 2, 3) * 8:
            source, other = drawn.source(c, 4, 1), drawn.source(c, 4, 1)
            share = drawn.choice([ZERO, UNIT, HALF, (1, 3), (HUGE, HUGE + 1)])
            t = slow.exact(share)
            pairs = [(row, (1 - t) * slow.exact(x)) for row, x in source]
            right = slow.added(pairs + [(row, t * slow.exact(x)) for row, x in other])
            right = slow.ranked({row: x for row, x in right.items() if x})
            self.assertEqual(mixed_source(source, other, share), right)
            self.assertEqual(mixed_source(source, other, ZERO), source)
            self.assertEqual(mixed_source(source, other, UNIT), other)
            check_call(self, mixed_source, source, other, share)
        for share in ((-1, 2), (3, 2), (-1, HUGE), (HUGE + 1, HUGE), (2, 1)):
            with self.assertRaises(Unfit):
                mixed_source(source, other, share)
            check_call(self, mixed_source, source, other, share)

    def test_shown_source(self):
        for source, c in drawn_sources(7, 4):
            for many in range(1, c + 1):
                for columns in itertools.combinations(range(c), many):
                    pairs = [(tuple(row[k] for k in columns), slow.exact(x)) for row, x in source]
                    self.assertEqual(shown_source(source, columns), slow.ranked(slow.added(pairs)))
                    check_call(self, shown_source, source, columns)
            for columns, place in (((c,), c), ((-1, 0), -1), ((0, c, c + 3), c), ((-2, -1), -2), ((0, 10 ** 30), 10 ** 30)):
                got = outcome(shown_source, (source, columns), {})
                self.assertEqual(got, ("error", NoPlace, {"place": place}))
                check_call(self, shown_source, source, columns)

    def test_unlinked_source(self):
        for source, c in drawn_sources(8, 6):
            pairs = []
            for rows in itertools.product(source, repeat=c):
                chance = Fraction(1)
                for _, x in rows:
                    chance *= slow.exact(x)
                pairs.append((tuple(rows[k][0][k] for k in range(c)), chance))
            unlinked = unlinked_source(source)
            self.assertEqual(unlinked, slow.ranked(slow.added(pairs)))
            self.assertTrue(is_source(unlinked, c))
            self.assertEqual(unlinked_source(unlinked), unlinked)
            check_call(self, unlinked_source, source)

    def test_moved_source(self):
        drawn = slow.Drawn(9)
        for source, c in drawn_sources(10, 6):
            for column in range(-2, c + 2):
                x, y = drawn.choice([drawn.fraction(), ZERO, (-1, 1)]), drawn.fraction()
                got = check_call(self, moved_source, source, column, x, y)
                if not 0 <= column < c:
                    self.assertEqual(got, ("error", NoPlace, {"place": column}))
                    continue
                pairs = []
                for row, chance in source:
                    own = [slow.exact(part) for part in row]
                    own[column] = slow.exact(x) * own[column] + slow.exact(y)
                    pairs.append((tuple(slow.pair(part) for part in own), slow.exact(chance)))
                self.assertEqual(got, ("value", slow.ranked(slow.added(pairs))))

    def test_rows_that_become_equal(self):
        source = even_source(((ZERO, UNIT), (UNIT, UNIT), ((2, 1), ZERO)))
        self.assertEqual(
            moved_source(source, 0, ZERO, HALF), (((HALF, ZERO), (1, 3)), ((HALF, UNIT), (2, 3))))


if __name__ == "__main__":
    unittest.main()
