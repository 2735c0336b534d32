"""The examples of the document, in its order, with just the results that it shows."""

import importlib
import unittest

FILES = ("errors", "forms", "sources", "drawings", "orbits", "chances", "apart", "wishes")

EXAMPLES = r"""
    >>> unit, half = (1, 1), (1, 2)
    >>> a, b = sample_form(2, 1, 0, 0), sample_form(2, 1, 1, 0)
    >>> apart = plus_forms(a, scaled_form(b, (-1, 1)))
    >>> spread = scaled_form(times_forms(apart, apart), half)
    >>> spread == ((((0,), (2,)), half), (((1,), (1,)), (-1, 1)), (((2,), (0,)), half)), form_at(spread, (((3, 1),), (unit,)))
    (True, (2, 1))
    >>> form_degree(spread), samples_of(a), samples_of(spread), is_even(spread), is_even(a), form_degree(())
    (2, (0,), (0, 1), True, False, 0)
    >>> evened(a) == scaled_form(plus_forms(a, b), half), renamed_form(a, (1, 0)) == b, wider_form(a, 3, 1)
    (True, True, ((((1,), (0,), (0,)), (1, 1)),))
    >>> pressed_form(b), pressed_form(number_form(2, 1, half)), number_form(2, 1, (0, 1))
    (((((1,),), (1, 1)),), (((), (1, 2)),), ())
    >>> kinds = (((0,), 1), ((0, 1), 2))
    >>> kind_samples(kinds), fits(sample_form(3, 2, 0, 1), kinds), fits(sample_form(3, 2, 2, 1), kinds)
    (((0,), (0, 1), (0, 1)), False, True)
    >>> renamed_form(a, (0, 0))
    raises Unfit()
    >>> zero = (0, 1)
    >>> coin = even_source(((zero,), (unit,)))
    >>> coin, moment_at(coin, (3,)), chance_of(coin, ((2, 1),)), is_source((((unit,), half), ((zero,), half)), 1)
    (((((0, 1),), (1, 2)), (((1, 1),), (1, 2))), (1, 2), (0, 1), False)
    >>> bent = source_of((((unit,), (3, 1)), ((zero,), unit), ((unit,), (2, 1))))
    >>> bent, mixed_source(coin, bent, (1, 4))
    (((((0, 1),), (1, 6)), (((1, 1),), (5, 6))), ((((0, 1),), (5, 12)), (((1, 1),), (7, 12))))
    >>> pair = even_source(((zero, zero), (unit, unit)))
    >>> shown_source(pair, (1,)) == coin, moment_at(pair, (1, 1)), moment_at(unlinked_source(pair), (1, 1)), len(unlinked_source(pair))
    (True, (1, 2), (1, 4), 4)
    >>> moved_source(coin, 0, (-2, 1), unit)
    ((((-1, 1),), (1, 2)), (((1, 1),), (1, 2)))
    >>> mixed_source(coin, bent, (3, 2))
    raises Unfit()
    >>> lone = (((spread,), unit),)
    >>> told_chances(lone, coin, 2), form_mean(spread, coin, 2), form_spread(spread, coin, 2)
    (((((0, 1),), (1, 2)), (((1, 2),), (1, 2))), (1, 4), (1, 16))
    >>> drawings(coin, 1), chance_told(lone, bent, 2, (half,)), law_means(lone, bent, 2)
    ([((((0, 1),),), (1, 2)), ((((1, 1),),), (1, 2))], (5, 18), ((5, 36),))
    >>> either = (((b,), half), ((a,), half))
    >>> is_law(either, 2, 1), is_law((((a,), half),), 2, 1), law_spreads(either, coin, 2), told_chances(either, coin, 2) == told_chances((((a,), unit),), coin, 2)
    (True, False, ((1, 4),), True)
    >>> both = (((plus_forms(a, b), apart), unit),)
    >>> forms_together(plus_forms(a, b), apart, coin, 2), are_apart_at(both, coin, 2, (0,), (1,)), are_apart_at((((a, b), unit),), coin, 2, (0,), (1,))
    ((0, 1), False, True)
    >>> are_apart_at(lone, coin, 2, (0,), (1,))
    raises NoPlace(place=1)
    >>> orbit((a,)) == ((b,), (a,)), least_name((a,)) == (b,), len(orbit((apart,))), least_name((apart,)) == (apart,)
    (True, True, 2, True)
    >>> product = times_forms(a, b)
    >>> keepers((apart,), 2), keepers((product,), 2), alike_samples((product,), 2), alike_samples((product, a), 2)
    (((0, 1),), ((0, 1), (1, 0)), [(0, 1)], [(0,), (1,)])
    >>> renaming((a, b), (b, a), 2), renaming((a, b), (a, a), 2), is_renaming((product,), (product,), 2, (1, 0))
    ((1, 0), None, True)
    >>> len(all_orders(4)), one_then((1, 2, 0), (0, 2, 1)), back((1, 2, 0))
    (24, (2, 1, 0), (2, 0, 1))
    >>> hung_on((b,)), packed((b,)), filled(packed((b,)), 2, 1) == (a,)
    ((1,), (((((1,),), (1, 1)),),), True)
    >>> solo, toss = (((a,), unit),), (((b,), half), ((a,), half))
    >>> orbit_weights(toss) == (((b,), unit),), even_law(solo) == toss
    (True, True)
    >>> middle = (((scaled_form(plus_forms(a, b), half),), unit),)
    >>> same_chances(solo, toss), same_chances(solo, middle), chance_gap(solo, middle, coin, (half,)), is_parting(solo, middle, (coin, (half,)))
    (True, False, (-1, 2), True)
    >>> parting(solo, toss), is_parting(solo, middle, parting(solo, middle)), fewest_samples(middle), narrow_law(toss) == (((sample_form(1, 1, 0, 0),), unit),)
    (None, True, 2, True)
    >>> twin, duo = (((a, a), unit),), (((a, b), unit),)
    >>> same_chances(twin, duo), same_chances(alone(twin, (1,)), alone(duo, (1,))), same_chances(alone(duo, (1, 0)), duo)
    (False, True, True)
    >>> same_chances(mixed(solo, middle, (1, 3)), mixed(toss, middle, (1, 3))), len(mixed(solo, toss, half))
    (True, 2)
    >>> shown = (((0,), 1), ((0, 1), 1))
    >>> wide = times_forms(sample_form(2, 2, 0, 0), sample_form(2, 2, 0, 1))
    >>> fitting_names((wide,), shown, 2) == ((renamed_form(wide, (1, 0)),),), law_fits((((wide,), unit),), shown)
    (True, False)
    >>> shown_law((((times_forms(sample_form(2, 2, 0, 1), sample_form(2, 2, 1, 1)),), unit),), shown, 2)
    raises CanNot()
    >>> are_apart(both, (0,), (1,)), are_apart(duo, (0,), (1,)), are_apart(twin, (0,), (1,))
    (False, True, False)
    >>> turned, copied = (((b, a), half), ((a, b), half)), (((b, b), half), ((a, a), half))
    >>> are_apart(turned, (0,), (1,)), are_apart(copied, (0,), (1,)), apart_lots((((a, b, a), unit),))
    (True, False, [(0, 2), (1,)])
    >>> is_bond(both, (0,), (1,), (coin, ((2, 1),), (zero,))), is_bond(both, (0,), (1,), (coin, (unit,), ((2, 1),)))
    (True, False)
    >>> made, ones = (((product,), unit),), (((unit,), (zero,)),) * 2
    >>> signed_count(made, ones, (unit,)), signed_count(made, ones, (zero,)), is_samples_paper(made, (ones, (unit,)))
    ((2, 1), (-2, 1), True)
    >>> are_apart(both, (0,), (2,))
    raises NoPlace(place=2)
    >>> scatter, flip = wish_of(spread), even_source(((zero,), (unit,)))
    >>> scatter, central((1,), 2) == scatter, joint_spread((1,), (1,)) == scatter, wish_value(scatter, flip), wish_degree(scatter)
    (((((1,), (1,)), (-1, 1)), (((2,),), (1, 1))), True, True, (1, 4), 2)
    >>> cumulant((1,), 3), wish_moments(scatter), wish_columns((((), unit),))
    (((((1,), (1,), (1,)), (2, 1)), (((1,), (2,)), (-3, 1)), (((3,),), (1, 1))), ((1,), (2,)), ())
    >>> uneven = (((b,), (2, 3)), ((a,), (1, 3)))
    >>> law_wish(uneven, 0), is_right((((spread,), unit),), scatter), is_right(uneven, scatter)
    (((((1,),), (1, 1)),), True, False)
    >>> made_wish(((((2,), (1,)), half), (((1,), (2,)), half), ((), (0, 1)))), wish_less(scatter, scatter)
    (((((1,), (2,)), (1, 1)),), ())
    >>> wish_renamed(joint_spread((1, 0), (0, 2)), (1, 0)) == joint_spread((0, 1), (2, 0))
    True
    >>> law_wish(uneven, 1)
    raises NoPlace(place=1)
"""


def examples():
    """The list of pairs (row, what it shows or None)."""
    out = []
    for row in EXAMPLES.strip().split("\n"):
        row = row.strip()
        if row.startswith(">>> "):
            out.append((row[4:], None))
        elif row:
            out[-1] = (out[-1][0], row)
    return out


def shown(row, names):
    """What the document would show for this row."""
    try:
        return repr(eval(row, names))
    except (LookupError, ValueError) as error:
        values = ", ".join(f"{name}={value}" for name, value in vars(error).items())
        return f"raises {error.__class__.__name__}({values})"


class ExampleTest(unittest.TestCase):

    def test_examples(self):
        names = {}
        for file in FILES:
            module = importlib.import_module("everysource." + file)
            names.update({name: value for name, value in vars(module).items() if not name.startswith("_")})
        tried = 0
        for row, result in examples():
            if result is None:
                exec(row, names)
                continue
            with self.subTest(row=row):
                self.assertEqual(shown(row, names), result)
                tried += 1
        self.assertEqual(tried, 39)


if __name__ == "__main__":
    unittest.main()
