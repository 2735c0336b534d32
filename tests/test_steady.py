import itertools
import unittest
from fractions import Fraction

import slow
from calls import check_call
from everysource.errors import CanNot, Unfit
from everysource.forms import is_form
from everysource.steady import (
    form_ring, form_store, gaining_ring, is_gain, is_most_store, is_store, is_stream, most_ring, most_step, most_store,
    ring_gain, ring_sum, step_gain, store,
)

ZERO, HALF, UNIT = (0, 1), (1, 2), (1, 1)
HUGE = 10 ** 30 + 57
UNFIT, CANNOT = ("error", Unfit, {}), ("error", CanNot, {})
SIZES = ((1, 1), (1, 3), (2, 1), (2, 2), (2, 3), (3, 1), (3, 2), (2, 4))


def words(letters, width):
    return list(itertools.product(range(letters), repeat=width))


def drawn_gain(things, letters, width):
    pairs = {word: slow.exact(things.fraction()) for word in words(letters, width) if things.number(0, 2)}
    return (letters, width, slow.from_sums(pairs))


def stored_gain(things, letters, width, slack=False):
    """A GAIN with a STORE; with slack one that gains less or as much at some words."""
    held = {word: slow.exact(things.fraction()) for word in words(letters, width - 1)}
    pairs = {word: held[word[1:]] - held[word[:-1]] for word in words(letters, width)}
    if slack:
        pairs = {word: x - things.choice([0, 0, 0, Fraction(things.number(0, 3), 2)]) for word, x in pairs.items()}
    return (letters, width, slow.from_sums(pairs))


def some_gains(seed, many):
    things, out = slow.Drawn(seed), []
    for _ in range(many):
        for letters, width in SIZES:
            out.append(drawn_gain(things, letters, width))
            out.append(stored_gain(things, letters, width))
            out.append(stored_gain(things, letters, width, True))
    return things, out


def slow_ring_gain(gain, ring):
    table = dict(gain[2])
    around = ring * (gain[1] + 1)
    return sum((slow.exact(table.get(around[k:k + gain[1]], ZERO)) for k in range(len(ring))), Fraction(0))


def simple_rings(letters, width):
    """All RINGS that come to no word of width - 1 letters twice."""
    out = []

    def walk(start, word, ring, seen):
        for letter in range(letters):
            later = (word + (letter,))[1:] if width > 1 else ()
            if later == start:
                out.append(ring + (letter,))
            elif later not in seen and later > start:
                walk(start, later, ring + (letter,), seen | {later})

    for start in words(letters, width - 1):
        walk(start, start, (), {start})
    return out


RINGS = {size: simple_rings(*size) for size in SIZES}


def drawn_stream(things, letters, width):
    """A STREAM mixed of rings, each gone round with equal chances to begin at each place."""
    rings = [things.choice(RINGS[letters, width]) for _ in range(things.number(1, 3))]
    sums = {}
    for ring, share in zip(rings, things.shares(len(rings))):
        around = ring * (width + 1)
        for k in range(len(ring)):
            word = around[k:k + width]
            sums[word] = sums.get(word, 0) + slow.exact(share) / len(ring)
    return (letters, width, slow.from_sums(sums))


def word_chance(stream, word):
    """The chance of a word by what is drawn letter by letter."""
    letters, width, pairs = stream
    table = {own: slow.exact(x) for own, x in pairs}
    if len(word) <= width:
        return sum((x for own, x in table.items() if own[:len(word)] == word), Fraction(0))
    ahead = word_chance(stream, word[:-1])
    if ahead == 0:
        return Fraction(0)
    tail = word[len(word) - width:]
    among = sum((x for own, x in table.items() if own[:-1] == tail[:-1]), Fraction(0))
    return ahead * table.get(tail, 0) / among


class ThingsTest(unittest.TestCase):

    def test_is_gain(self):
        things, gains = some_gains(1, 3)
        for gain in gains + [(1, 1, ()), (10 ** 40, 10 ** 40, ()), (10 ** 40, 1, (((HUGE,), (HUGE, 7)),)),
                             (2, 90, (((1,) * 90, HALF),)), (300, 1, tuple(((k,), HALF) for k in range(300)))]:
            self.assertIs(is_gain(gain), True)
            check_call(self, is_gain, gain)
        good = (2, 2, (((0, 1), (-3, 2)), ((1, 1), UNIT)))
        for thing in slow.spoiled(good) + list(slow.STRANGE):
            self.assertIs(is_gain(thing), False, thing)
        for thing in ((0, 1, ()), (1, 0, ()), (-1, 1, ()), (1, -1, ()), (2, 1, (((2,), UNIT),)), (2, 1, (((-1,), UNIT),)),
                      (2, 1, (((0,), ZERO),)), (2, 1, (((0,), (2, 4)),)), (2, 1, (((1,), UNIT), ((0,), UNIT))),
                      (2, 1, (((1,), UNIT), ((1,), HALF))), (2, 2, (((0,), UNIT),)), (2, 1, (((0, 0), UNIT),)),
                      (2, 1), (2, 1, (), ()), (2, 1, []), [2, 1, ()], (2, 1, (((0,), UNIT, 1),)), (True, 1, ()),
                      (2, True, ()), (2, 1, (([0], UNIT),)), (2, 1, (((False,), UNIT),)), (2, 1, None)):
            self.assertIs(is_gain(thing), False, thing)

    def test_is_stream(self):
        things, gains = some_gains(2, 2)
        for letters, width in SIZES:
            for _ in range(4):
                stream = drawn_stream(things, letters, width)
                self.assertIs(is_stream(stream), True)
                check_call(self, is_stream, stream)
        rights = 0
        for letters, width, pairs in gains:
            total = sum((abs(slow.exact(x)) for _, x in pairs), Fraction(0))
            chances = {word: abs(slow.exact(x)) / total for word, x in pairs}
            heads = slow.added([(word[:-1], x) for word, x in chances.items()])
            tails = slow.added([(word[1:], x) for word, x in chances.items()])
            right = chances != {} and heads == tails
            rights += right
            self.assertIs(is_stream((letters, width, slow.from_sums(chances))), right)
        self.assertGreater(rights, 5)
        good = (2, 2, (((0, 0), (1, 4)), ((0, 1), (1, 4)), ((1, 0), (1, 4)), ((1, 1), (1, 4))))
        self.assertIs(is_stream(good), True)
        for thing in slow.spoiled(good) + list(slow.STRANGE):
            self.assertIs(is_stream(thing), False, thing)
        for thing in ((2, 2, ()), (2, 1, (((0,), HALF),)), (2, 1, (((0,), (-1, 1)), ((1,), (2, 1)))),
                      (2, 2, (((0, 1), UNIT),)), (2, 2, (((0, 0), HALF), ((0, 1), HALF))),
                      (2, 2, (((0, 1), (1, 3)), ((1, 0), (2, 3)))), (2, 1, (((0,), HALF), ((1,), (2, 4))))):
            self.assertIs(is_stream(thing), False, thing)
        for thing in ((2, 2, (((0, 1), HALF), ((1, 0), HALF))), (1, 30, (((0,) * 30, UNIT),)), (9, 1, (((8,), UNIT),)),
                      (200, 1, tuple(((k,), (1, 200)) for k in range(200)))):
            self.assertIs(is_stream(thing), True, thing)


class GainTest(unittest.TestCase):

    def test_ring_gain(self):
        things, gains = some_gains(3, 4)
        for gain in gains:
            for _ in range(4):
                ring = tuple(things.number(0, gain[0] - 1) for _ in range(things.number(1, 6)))
                self.assertEqual(ring_gain(gain, ring), slow.pair(slow_ring_gain(gain, ring)))
            check_call(self, ring_gain, gain, ring)
        self.assertEqual(ring_gain((2, 5, (((1, 1, 1, 1, 1), HALF),)), (1,)), HALF)
        self.assertEqual(ring_gain((2, 5, (((0, 1, 0, 1, 0), HALF), ((1, 0, 1, 0, 1), UNIT))), (1, 0)), (3, 2))
        self.assertEqual(ring_gain((3, 2, ()), (0, 2, 1) * 21), ZERO)
        self.assertEqual(ring_gain((2, 1, (((1,), (HUGE, 3)),)), (1, 1, 0)), slow.pair(2 * Fraction(HUGE, 3)))

    def test_step_gain(self):
        things, gains = some_gains(4, 3)
        for gain in gains:
            letters, width, pairs = gain
            for size in SIZES:
                if size[0] != letters:
                    continue
                stream = drawn_stream(things, *size)
                want = sum((slow.exact(x) * word_chance(stream, word) for word, x in pairs), Fraction(0))
                self.assertEqual(step_gain(gain, stream), slow.pair(want))
            check_call(self, step_gain, gain, stream)
        wide = (2, 3, (((0, 0, 1), HALF), ((0, 1, 1), (HUGE, 7)), ((1, 1, 1), (-1, 3))))
        self.assertEqual(step_gain(wide, (2, 1, (((1,), UNIT),))), (-1, 3))
        self.assertEqual(check_call(self, step_gain, wide, (3, 1, (((1,), UNIT),))), UNFIT)
        self.assertEqual(check_call(self, step_gain, (1, 1, ()), (2, 1, (((1,), UNIT),))), UNFIT)
        self.assertEqual(step_gain((2, 1, ()), (2, 4, (((0, 0, 0, 0), UNIT),))), ZERO)
        # Words that the stream never comes to, and that it would leave nowhere.
        self.assertEqual(step_gain((3, 4, (((2, 2, 0, 0), HALF), ((0, 0, 2, 0), HALF))), (3, 2, (((0, 0), UNIT),))), ZERO)

    def test_streams_gain_as_rings(self):
        # Where each ring gains 0 each stream does, and no stream gains more than the ring that gains most.
        things, gains = some_gains(5, 2)
        for gain in gains:
            for size in SIZES:
                if size[0] == gain[0]:
                    gained = step_gain(gain, drawn_stream(things, *size))
                    self.assertLessEqual(slow.exact(gained), slow.exact(most_step(gain)))
                    if gaining_ring(gain) is None:
                        self.assertEqual(gained, ZERO)


class StoreTest(unittest.TestCase):

    def test_store(self):
        _, gains = some_gains(6, 6)
        some = [0, 0]
        for gain in gains:
            letters, width, pairs = gain
            zero = all(slow_ring_gain(gain, ring) == 0 for ring in RINGS[letters, width])
            some[zero] += 1
            got = check_call(self, store, gain)
            ring = gaining_ring(gain)
            check_call(self, gaining_ring, gain)
            if not zero:
                self.assertEqual(got, CANNOT)
                self.assertTrue(ring and all(0 <= letter < letters for letter in ring) and len(ring) <= 64)
                self.assertNotEqual(slow_ring_gain(gain, ring), 0)
                continue
            self.assertIsNone(ring)
            held = dict(got[1])
            self.assertEqual(got[1], slow.from_sums({word: slow.exact(x) for word, x in got[1]}))
            self.assertTrue(all(len(word) == width - 1 for word in held))
            self.assertNotIn((0,) * (width - 1), held)
            self.assertTrue(self.holds(gain, held))
            self.assertIs(is_store(gain, got[1]), True)
        self.assertGreater(min(some), 50)

    def holds(self, gain, held):
        table = dict(gain[2])
        return all(slow.exact(held.get(word[1:], ZERO)) - slow.exact(held.get(word[:-1], ZERO))
                   == slow.exact(table.get(word, ZERO)) for word in words(gain[0], gain[1]))

    def test_is_store(self):
        things, gains = some_gains(7, 3)
        some = [0, 0]
        for gain in gains:
            letters, width, _ = gain
            for _ in range(3):
                held = {word: slow.exact(things.fraction()) for word in words(letters, width - 1) if things.number(0, 1)}
                moved = Fraction(things.number(-2, 2), 3)
                if gaining_ring(gain) is None:
                    held = {word: slow.exact(dict(store(gain)).get(word, ZERO)) + moved for word in words(letters, width - 1)}
                    if things.number(0, 3) == 0:
                        held[things.choice(words(letters, width - 1))] += Fraction(1, 7)
                thing = slow.from_sums(held)
                right = self.holds(gain, dict(thing))
                some[right] += 1
                self.assertIs(is_store(gain, thing), right)
                check_call(self, is_store, gain, thing)
        self.assertGreater(min(some), 30)
        turn = (2, 2, (((0, 1), UNIT), ((1, 0), (-1, 1))))
        for thing in ((((1,), UNIT),), (((0,), HALF), ((1,), (3, 2))), (((0,), (-1, 1)),)):
            self.assertIs(is_store(turn, thing), True, thing)
        for thing in slow.spoiled((((0,), HALF), ((1,), (3, 2)))) + list(slow.STRANGE):
            self.assertIs(is_store(turn, thing), False, thing)
        for thing in ((((0,), ZERO), ((1,), UNIT)), (((1,), (2, 2)),), (((1,), UNIT), ((2,), UNIT)), (((1, 0), UNIT),),
                      (((1,), UNIT), ((0,), UNIT)), (((1,), UNIT), ((1,), UNIT))):
            self.assertIs(is_store(turn, thing), False, thing)

    def test_width_1(self):
        self.assertEqual((store((3, 1, ())), gaining_ring((3, 1, ()))), ((), None))
        self.assertEqual([is_store((3, 1, ()), thing) for thing in ((), (((), HALF),), (((0,), HALF),), ((HALF, ()),))],
                         [True, True, False, False])
        lone = (3, 1, (((2,), HALF),))
        self.assertEqual(check_call(self, store, lone), CANNOT)
        self.assertEqual((is_store(lone, ()), is_store(lone, (((), HALF),))), (False, False))
        self.assertEqual((most_step(lone), most_step((3, 1, ((((0,), (-1, 1)), ((1,), (-1, 2)), ((2,), (-1, 3)))))), most_ring(lone)),
                         (HALF, (-1, 3), (2,)))
        self.assertEqual((most_store(lone, HALF), check_call(self, most_store, lone, (1, 3))), ((), CANNOT))
        self.assertIs(is_most_store(lone, HALF, (((), HALF),)), True)

    def test_one_letter(self):
        for width in (1, 2, 5, 30):
            none, some = (1, width, ()), (1, width, (((0,) * width, (-2, 3)),))
            self.assertEqual((store(none), gaining_ring(none), most_step(none)), ((), None, ZERO))
            self.assertEqual((check_call(self, store, some), most_step(some)), (CANNOT, (-2, 3)))
            self.assertNotEqual(slow_ring_gain(some, gaining_ring(some)), 0)
            self.assertEqual((most_store(some, ZERO), most_store(some, (-2, 3))), ((), ()))
            self.assertEqual(check_call(self, most_store, some, (-1, 1)), CANNOT)

    def test_most(self):
        things, gains = some_gains(8, 4)
        for gain in gains:
            letters, width, pairs = gain
            most = max(slow_ring_gain(gain, ring) / len(ring) for ring in RINGS[letters, width])
            self.assertEqual(most_step(gain), slow.pair(most))
            ring = most_ring(gain)
            self.assertTrue(all(0 <= letter < letters for letter in ring) and 1 <= len(ring) <= 64)
            self.assertEqual(slow_ring_gain(gain, ring), most * len(ring))
            check_call(self, most_step, gain)
            check_call(self, most_ring, gain)
            for bound in (most, most + Fraction(1, HUGE), most + things.number(1, 5), Fraction(0), most - Fraction(1, HUGE)):
                got = check_call(self, most_store, gain, slow.pair(bound))
                if bound < most:
                    self.assertEqual(got, CANNOT)
                    continue
                self.assertEqual(got[1], slow.from_sums({word: slow.exact(x) for word, x in got[1]}))
                self.assertTrue(self.bounds(gain, bound, dict(got[1])))
                self.assertIs(is_most_store(gain, slow.pair(bound), got[1]), True)

    def bounds(self, gain, bound, held):
        if not all(len(word) == gain[1] - 1 for word in held):
            return False
        table = dict(gain[2])
        return all(slow.exact(table.get(word, ZERO)) + slow.exact(held.get(word[:-1], ZERO))
                   <= bound + slow.exact(held.get(word[1:], ZERO)) for word in words(gain[0], gain[1]))

    def test_is_most_store(self):
        things, gains = some_gains(9, 3)
        some = [0, 0]
        for gain in gains:
            letters, width, _ = gain
            for k in range(4):
                bound = slow.exact(most_step(gain)) + Fraction(things.number(0, 6), 3)
                held = {word: slow.exact(x) for word, x in most_store(gain, slow.pair(bound))}
                word = things.choice(words(letters, width - 1))
                held[word] = held.get(word, 0) + Fraction(things.number(-3, 3), 5)
                thing = slow.from_sums({word: x if k else slow.exact(things.fraction()) for word, x in held.items()})
                right = self.bounds(gain, bound, dict(thing))
                some[right] += 1
                self.assertIs(is_most_store(gain, slow.pair(bound), thing), right)
                check_call(self, is_most_store, gain, slow.pair(bound), thing)
                # Below what the best ring gains nothing is one.
                self.assertIs(is_most_store(gain, slow.pair(slow.exact(most_step(gain)) - Fraction(1, 100)), thing), False)
        self.assertGreater(min(some), 30)
        rise = (2, 2, (((0, 1), UNIT),))
        for thing in slow.spoiled((((1,), HALF),)) + list(slow.STRANGE):
            self.assertIs(is_most_store(rise, HALF, thing), False, thing)
        for thing in ((((1,), HALF),), (((0,), (-1, 4)), ((1,), (1, 4))), (((0,), (HUGE, 1)), ((1,), (2 * HUGE + 1, 2)))):
            self.assertIs(is_most_store(rise, HALF, thing), True, thing)
        for thing in ((), (((1,), (2, 4)),), (((0,), ZERO), ((1,), HALF)), (((1,), HALF), ((0,), HALF)), (((1,), UNIT),)):
            self.assertIs(is_most_store(rise, HALF, thing), False, thing)

    def test_at_the_bounds(self):
        things = slow.Drawn(10)
        for letters, width in ((2, 6), (4, 3), (8, 2), (64, 1)):
            pairs = {word: Fraction(things.number(-HUGE, HUGE), things.number(1, HUGE)) for word in words(letters, width)}
            gain = (letters, width, slow.from_sums(pairs))
            most, ring = most_step(gain), most_ring(gain)
            self.assertEqual(slow_ring_gain(gain, ring), slow.exact(most) * len(ring))
            self.assertTrue(self.bounds(gain, slow.exact(most), dict(most_store(gain, most))))
            self.assertEqual(check_call(self, store, gain), CANNOT)


class FormTest(unittest.TestCase):

    def shifted(self, form, n, c):
        """The FORM of the value at the last n - 1 of n ROWS less that at the first."""
        idle = ((0,) * c,)
        return slow.plus(tuple((idle + powers, x) for powers, x in form), tuple((powers + idle, x) for powers, x in form), -1)

    def some_forms(self, seed):
        things = slow.Drawn(seed)
        for _ in range(60):
            n, c = things.number(1, 4), things.number(1, 2)
            form = things.form(n, c, 4)
            yield things, form, n, c
            if n > 1:
                held = things.form(n - 1, c, 4)
                yield things, self.shifted(held, n, c), n, c
                yield things, slow.plus(self.shifted(held, n, c), things.form(n, c, 1)), n, c

    def test_store_and_ring(self):
        some = [0, 0]
        for things, form, n, c in self.some_forms(11):
            got = check_call(self, form_store, form, n, c)
            ring = check_call(self, form_ring, form, n, c)[1]
            if got == CANNOT:
                some[0] += 1
                self.assertTrue(isinstance(ring, tuple) and ring != () and all(len(row) == c for row in ring))
                self.assertNotEqual(self.slow_sum(form, n, ring), 0)
                self.assertNotEqual(ring_sum(form, n, ring), ZERO)
                continue
            some[1] += 1
            self.assertIsNone(ring)
            self.assertTrue(is_form(got[1], n - 1, c))
            self.assertFalse(any(not any(any(own) for own in powers) for powers, _ in got[1]))
            self.assertEqual(self.shifted(got[1], n, c), form)
            rows = tuple(things.row(c) for _ in range(things.number(1, 2 * n + 1)))
            self.assertEqual(ring_sum(form, n, rows), ZERO)
        self.assertGreater(min(some), 40)

    def slow_sum(self, form, n, rows):
        around = rows * (n + 1)
        return sum((slow.value(form, around[k:k + n]) for k in range(len(rows))), Fraction(0))

    def test_ring_sum(self):
        for things, form, n, c in self.some_forms(12):
            for many in (1, 2, things.number(3, 6)):
                rows = tuple(things.row(c) for _ in range(many))
                self.assertEqual(ring_sum(form, n, rows), slow.pair(self.slow_sum(form, n, rows)))
            check_call(self, ring_sum, form, n, rows)

    def test_edges(self):
        for n in (1, 2, 5):
            self.assertEqual((form_store((), n, 1), form_ring((), n, 1)), ((), None))
            number = ((((0,),) * n, (-2, 3)),)
            self.assertEqual(check_call(self, form_store, number, n, 1), CANNOT)
            ring = form_ring(number, n, 1)
            self.assertEqual(ring_sum(number, n, ring), slow.pair(Fraction(-2, 3) * len(ring)))
        lone = ((((1, 0),), UNIT), (((2, 0),), (-1, 1)))
        self.assertEqual(check_call(self, form_store, lone, 1, 2), CANNOT)
        self.assertNotEqual(ring_sum(lone, 1, form_ring(lone, 1, 2)), ZERO)
        self.assertEqual(ring_sum(lone, 1, ((HALF, ZERO),)), (1, 4))
        # 0 in rings of one ROW, and in rings of two of its ROWS.
        turned = ((((0,), (1,), (2,)), UNIT), (((0,), (2,), (1,)), (-1, 1)))
        self.assertEqual(ring_sum(turned, 3, ((UNIT,), (HALF,))), ZERO)
        self.assertNotEqual(ring_sum(turned, 3, form_ring(turned, 3, 1)), ZERO)
        gap = ((((0,), (2,), (1,)), (-1, 1)), (((1,), (0,), (2,)), UNIT))
        self.assertEqual(ring_sum(gap, 3, ((UNIT,), (HALF,), ((3, 1),))), ZERO)
        self.assertNotEqual(ring_sum(gap, 3, form_ring(gap, 3, 1)), ZERO)
        self.assertEqual(form_store(((((0,), (3,), (0,)), HALF), (((3,), (0,), (0,)), (-1, 2))), 3, 1), ((((3,), (0,)), HALF),))
        great = ((((8, 8, 8),) + ((0, 0, 0),) * 5 + ((8, 8, 8),), (HUGE, 7)),)
        self.assertNotEqual(ring_sum(great, 7, form_ring(great, 7, 3)), ZERO)


if __name__ == "__main__":
    unittest.main()
