import math
import unittest

import slow
from calls import check_call
from everysource.drawings import is_law
from everysource.forms import number_form, plus_forms, sample_form, times_forms
from everysource.orbits import (
    alike_samples, all_orders, back, even_law, filled, hung_on, is_renaming, keepers, least_name, one_then, orbit,
    orbit_weights, packed, renamed_tells, renaming,
)

HALF, UNIT = (1, 2), (1, 1)


def drawn_tells(seed, many, most=4):
    """Tuples (drawn, tells, n, c); some of the tells with samples that are alike."""
    drawn = slow.Drawn(seed)
    out = []
    for _ in range(many):
        for n in range(most + 1):
            c = drawn.number(1, 2)
            tells = drawn.tells(n, c, drawn.number(1, 3), 3)
            if n > 1 and drawn.number(0, 1):
                swap = (1, 0) + tuple(range(2, n))
                tells = tuple(plus_forms(form, slow.renamed(form, swap)) for form in tells)
            out.append((drawn, tells, n, c))
    return out


class OrderTest(unittest.TestCase):

    def test_all_orders(self):
        for n in range(7):
            self.assertEqual(all_orders(n), slow.orders(n))
            check_call(self, all_orders, n) if n < 6 else None
        self.assertEqual(all_orders(0), [()])
        self.assertEqual(len(all_orders(7)), 5040)

    def test_one_then_and_back(self):
        drawn = slow.Drawn(1)
        for n in range(6):
            for _ in range(6):
                order, later = drawn.order(n), drawn.order(n)
                self.assertEqual(one_then(order, later), tuple(later[order[i]] for i in range(n)))
                self.assertEqual(one_then(order, back(order)), tuple(range(n)))
                self.assertEqual(one_then(back(order), order), tuple(range(n)))
                check_call(self, one_then, order, later)
                check_call(self, back, order)

    def test_renamed_one_after_the_other(self):
        for drawn, tells, n, _ in drawn_tells(2, 8):
            order, later = drawn.order(n), drawn.order(n)
            self.assertEqual(renamed_tells(tells, order), slow.renamed_tells(tells, order))
            self.assertEqual(
                renamed_tells(renamed_tells(tells, order), later), renamed_tells(tells, one_then(order, later)))
            self.assertEqual(renamed_tells(renamed_tells(tells, order), back(order)), tells)
            check_call(self, renamed_tells, tells, order)


class OrbitTest(unittest.TestCase):

    def test_against_all_orders(self):
        for drawn, tells, n, c in drawn_tells(3, 20):
            members = slow.orbit(tells, n)
            self.assertEqual(orbit(tells), members)
            self.assertEqual(least_name(tells), members[0])
            kept = tuple(order for order in slow.orders(n) if slow.renamed_tells(tells, order) == tells)
            self.assertEqual(keepers(tells, n), kept)
            self.assertEqual(len(members) * len(kept), math.factorial(n))
            self.assertEqual(hung_on(tells), slow.hung(tells))
            self.assertEqual(least_name(renamed_tells(tells, drawn.order(n))), members[0])
            check_call(self, orbit, tells)
            check_call(self, least_name, tells)
            check_call(self, keepers, tells, n)
            check_call(self, hung_on, tells)

    def test_alike_samples(self):
        for _, tells, n, c in drawn_tells(4, 20):
            lots = alike_samples(tells, n)
            self.assertEqual(sorted(k for lot in lots for k in lot), list(range(n)))
            self.assertEqual(lots, sorted(tuple(sorted(lot)) for lot in lots))
            for one in range(n):
                for other in range(n):
                    swap = list(range(n))
                    swap[one], swap[other] = other, one
                    alike = slow.renamed_tells(tells, swap) == tells
                    self.assertEqual(any(one in lot and other in lot for lot in lots), alike)
            check_call(self, alike_samples, tells, n)

    def test_renaming(self):
        found = []
        for drawn, tells, n, c in drawn_tells(5, 20):
            others = [renamed_tells(tells, drawn.order(n)), drawn.tells(n, c, len(tells), 1), tells]
            others.append(tells[::-1])
            for other in others:
                right = [order for order in slow.orders(n) if slow.renamed_tells(tells, order) == other]
                self.assertEqual(renaming(tells, other, n), right[0] if right else None)
                self.assertEqual(bool(right), least_name(tells) == least_name(other))
                found.append(bool(right))
                for order in slow.orders(n):
                    self.assertIs(is_renaming(tells, other, n, order), order in right)
                check_call(self, renaming, tells, other, n)
                check_call(self, is_renaming, tells, other, n, tuple(range(n)))
        self.assertTrue(found.count(False) > 20)

    def test_is_renaming_wrong_things(self):
        a, b = sample_form(3, 1, 0, 0), sample_form(3, 1, 1, 0)
        self.assertTrue(is_renaming((a, b), (b, a), 3, (1, 0, 2)))
        for thing in slow.spoiled((1, 0, 2)) + list(slow.STRANGE):
            self.assertIs(is_renaming((a, b), (b, a), 3, thing), False, thing)
        for thing in ((1, 0), (1, 0, 2, 3), (1, 0, 0), (1, 0, 3), (-2, -3, -1), (1, 1, 2), (True, False, 2), (0, 1, 2)):
            self.assertIs(is_renaming((a, b), (b, a), 3, thing), False, thing)
        self.assertIs(is_renaming(((),), ((),), 0, ()), True)
        self.assertIs(is_renaming(((),), ((),), 0, (0,)), False)
        self.assertIs(is_renaming(((),), ((),), 2, (1, 0)), True)
        self.assertIs(is_renaming(((),), ((),), 2, ()), False)
        self.assertIs(is_renaming(((),), ((),), 2, (0, 2)), False)
        many = tuple(range(100, -1, -1))
        self.assertIs(is_renaming(((),), ((),), 101, many), True)

    def test_edges(self):
        none = (number_form(3, 2, HALF), ())
        self.assertEqual((orbit(none), least_name(none), hung_on(none)), ((none,), none, ()))
        self.assertEqual((keepers(none, 3), alike_samples(none, 3)), (tuple(slow.orders(3)), [(0, 1, 2)]))
        bare = ((((), HALF),),)
        self.assertEqual((orbit(bare), keepers(bare, 0), alike_samples(bare, 0)), ((bare,), ((),), []))
        self.assertEqual((orbit(((), ())), least_name(((), ())), packed(((), ()))), ((((), ()),), ((), ()), ((), ())))
        self.assertEqual((renaming(((),), ((),), 3), renaming(bare, bare, 0)), ((0, 1, 2), ()))
        self.assertEqual(renaming(((),), (number_form(2, 1, UNIT),), 2), None)

    def test_turning(self):
        # Three turns keep these tells, but no exchange does.
        form = tuple(sorted((((p,), (q,), (r,)), UNIT) for p, q, r in ((0, 1, 2), (1, 2, 0), (2, 0, 1))))
        self.assertEqual(keepers((form,), 3), ((0, 1, 2), (1, 2, 0), (2, 0, 1)))
        self.assertEqual(alike_samples((form,), 3), [(0,), (1,), (2,)])
        self.assertEqual(len(orbit((form,))), 2)

    def test_many_samples(self):
        drawn = slow.Drawn(6)
        for n in (5, 6):
            for _ in range(3):
                tells = drawn.tells(n, 2, 2, 3)
                self.assertEqual(orbit(tells), slow.orbit(tells, n))
                self.assertEqual(least_name(tells), orbit(tells)[0])
        product = sample_form(7, 1, 0, 0)
        for k in range(1, 7):
            product = times_forms(product, sample_form(7, 1, k, 0))
        self.assertEqual((orbit((product,)), len(keepers((product,), 7))), (((product,),), 5040))
        self.assertEqual(least_name((sample_form(7, 1, 0, 0),)), (sample_form(7, 1, 6, 0),))
        self.assertEqual(len(orbit((sample_form(7, 1, 2, 0), sample_form(7, 1, 4, 0)))), 42)


class FilledTest(unittest.TestCase):

    def test_filled_and_packed(self):
        for drawn, tells, n, c in drawn_tells(7, 8):
            for further in range(3):
                wide = filled(tells, n + further, c)
                none = ((0,) * c,) * further
                self.assertEqual(wide, tuple(tuple((own + none, x) for own, x in form) for form in tells))
                check_call(self, filled, tells, n + further, c)
            kept = slow.hung(tells)
            small = tuple(tuple((tuple(own[i] for i in kept), x) for own, x in form) for form in tells)
            self.assertEqual(packed(tells), small)
            self.assertEqual(packed(small), small)
            self.assertEqual(least_name(filled(small, n, c)), least_name(tells))
            check_call(self, packed, tells)
        self.assertEqual(filled(((), (((), HALF),)), 2, 1), ((), number_form(2, 1, HALF)))


class LawTest(unittest.TestCase):

    def test_orbit_weights_and_even_law(self):
        drawn = slow.Drawn(8)
        merged = 0
        for _ in range(15):
            for n in range(4):
                c, t = drawn.number(1, 2), drawn.number(1, 2)
                plain = drawn.teller(n, c, t, 3, 2)
                teller = slow.shuffled_law(drawn, plain, n)
                pairs = [(slow.orbit(tells, n)[0], slow.exact(x)) for tells, x in teller]
                right = slow.from_sums(slow.added(pairs))
                self.assertEqual(orbit_weights(teller), right)
                self.assertEqual(orbit_weights(plain), right)
                self.assertEqual(orbit_weights(right), right)
                merged += len(right) < len(teller)
                spread = []
                for tells, x in teller:
                    members = slow.orbit(tells, n)
                    spread.extend((own, slow.exact(x) / len(members)) for own in members)
                even = slow.from_sums(slow.added(spread))
                self.assertEqual(even_law(teller), even)
                self.assertEqual(orbit_weights(even), right)
                self.assertTrue(is_law(even, n, c))
                self.assertTrue(is_law(right, n, c))
                check_call(self, orbit_weights, teller)
                check_call(self, even_law, teller)
        self.assertGreater(merged, 5)


if __name__ == "__main__":
    unittest.main()
