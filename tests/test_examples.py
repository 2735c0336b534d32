"""The examples of the document, in its order, with just the results that it shows."""

import importlib
import unittest

from test_interface import INTERFACE, entries

EXAMPLES = r"""
    # forms
    >>> unit, half = (1, 1), (1, 2)
    >>> a, b = sample_form(2, 1, 0, 0), sample_form(2, 1, 1, 0)
    >>> apart = plus_forms(a, scaled_form(b, (-1, 1)))
    >>> spread = scaled_form(times_forms(apart, apart), half)
    >>> spread == ((((0,), (2,)), half), (((1,), (1,)), (-1, 1)), (((2,), (0,)), half)), form_at(spread, (((3, 1),), (unit,)))
    (True, (2, 1))
    >>> form_degree(spread), samples_of(a), samples_of(spread), is_even(spread), is_even(a), form_degree(())
    (2, (0,), (0, 1), True, False, 0)
    >>> evened(a) == scaled_form(plus_forms(a, b), half), renamed_form(a, (1, 0)) == b, wider_form(a, 3, 1)
    (True, True, ((((1,), (0,), (0,)), (1, 1)),))
    >>> pressed_form(b), pressed_form(number_form(2, 1, half)), number_form(2, 1, (0, 1))
    (((((1,),), (1, 1)),), (((), (1, 2)),), ())
    >>> kinds = (((0,), 1), ((0, 1), 2))
    >>> kind_samples(kinds), fits(sample_form(3, 2, 0, 1), kinds), fits(sample_form(3, 2, 2, 1), kinds)
    (((0,), (0, 1), (0, 1)), False, True)
    >>> renamed_form(a, (0, 0))
    raises Unfit()
    # sources
    >>> zero = (0, 1)
    >>> coin = even_source(((zero,), (unit,)))
    >>> coin, moment_at(coin, (3,)), chance_of(coin, ((2, 1),)), is_source((((unit,), half), ((zero,), half)), 1)
    (((((0, 1),), (1, 2)), (((1, 1),), (1, 2))), (1, 2), (0, 1), False)
    >>> bent = source_of((((unit,), (3, 1)), ((zero,), unit), ((unit,), (2, 1))))
    >>> bent, mixed_source(coin, bent, (1, 4))
    (((((0, 1),), (1, 6)), (((1, 1),), (5, 6))), ((((0, 1),), (5, 12)), (((1, 1),), (7, 12))))
    >>> pair = even_source(((zero, zero), (unit, unit)))
    >>> shown_source(pair, (1,)) == coin, moment_at(pair, (1, 1)), moment_at(unlinked_source(pair), (1, 1)), len(unlinked_source(pair))
    (True, (1, 2), (1, 4), 4)
    >>> moved_source(coin, 0, (-2, 1), unit)
    ((((-1, 1),), (1, 2)), (((1, 1),), (1, 2)))
    >>> mixed_source(coin, bent, (3, 2))
    raises Unfit()
    # drawings
    >>> lone = (((spread,), unit),)
    >>> told_chances(lone, coin, 2), form_mean(spread, coin, 2), form_spread(spread, coin, 2)
    (((((0, 1),), (1, 2)), (((1, 2),), (1, 2))), (1, 4), (1, 16))
    >>> drawings(coin, 1), chance_told(lone, bent, 2, (half,)), law_means(lone, bent, 2)
    ([((((0, 1),),), (1, 2)), ((((1, 1),),), (1, 2))], (5, 18), ((5, 36),))
    >>> either = (((b,), half), ((a,), half))
    >>> is_law(either, 2, 1), is_law((((a,), half),), 2, 1), law_spreads(either, coin, 2), told_chances(either, coin, 2) == told_chances((((a,), unit),), coin, 2)
    (True, False, ((1, 4),), True)
    >>> both = (((plus_forms(a, b), apart), unit),)
    >>> forms_together(plus_forms(a, b), apart, coin, 2), are_apart_at(both, coin, 2, (0,), (1,)), are_apart_at((((a, b), unit),), coin, 2, (0,), (1,))
    ((0, 1), False, True)
    >>> are_apart_at(lone, coin, 2, (0,), (1,))
    raises NoPlace(place=1)
    # programs proglines
    >>> near_x, far_x = ((((1,), (0,)), (1, 1)),), ((((0,), (1,)), (1, 1)),)
    >>> tosser = program_by('columns x\nmain draws 2\n  throw c: 1/2: x.0 | 1/2: x.1\n  tell c')
    >>> law_of(tosser) == (((far_x,), (1, 2)), ((near_x,), (1, 2))), ways(tosser)
    (True, [(0,), (1,)])
    >>> drawer = program_by('columns x\npair draws 2\n  tell x.0 - x.1\nm draws 1\n  a from pair\n  tell a*x.0 + (2/4)')
    >>> law_of(drawer)[0][0][0], program_text(drawer)[-16:]
    (((((0,), (0,), (0,)), (1, 2)), (((1,), (0,), (1,)), (-1, 1)), (((1,), (1,), (0,)), (1, 1))), 'tell a*x.0 + 1/2')
    >>> program_by('columns x\nmain draws 1\n  tell x.1')
    raises BadLine(line=3)
    # orbits
    >>> orbit((a,)) == ((b,), (a,)), least_name((a,)) == (b,), len(orbit((apart,))), least_name((apart,)) == (apart,)
    (True, True, 2, True)
    >>> product = times_forms(a, b)
    >>> keepers((apart,), 2), keepers((product,), 2), alike_samples((product,), 2), alike_samples((product, a), 2)
    (((0, 1),), ((0, 1), (1, 0)), [(0, 1)], [(0,), (1,)])
    >>> renaming((a, b), (b, a), 2), renaming((a, b), (a, a), 2), is_renaming((product,), (product,), 2, (1, 0))
    ((1, 0), None, True)
    >>> len(all_orders(4)), one_then((1, 2, 0), (0, 2, 1)), back((1, 2, 0))
    (24, (2, 1, 0), (2, 0, 1))
    >>> hung_on((b,)), packed((b,)), filled(packed((b,)), 2, 1) == (a,)
    ((1,), (((((1,),), (1, 1)),),), True)
    >>> solo, toss = (((a,), unit),), (((b,), half), ((a,), half))
    >>> orbit_weights(toss) == (((b,), unit),), even_law(solo) == toss
    (True, True)
    # chances
    >>> middle = (((scaled_form(plus_forms(a, b), half),), unit),)
    >>> same_chances(solo, toss), same_chances(solo, middle), chance_gap(solo, middle, coin, (half,)), is_parting(solo, middle, (coin, (half,)))
    (True, False, (-1, 2), True)
    >>> parting(solo, toss), is_parting(solo, middle, parting(solo, middle)), fewest_samples(middle), narrow_law(toss) == (((sample_form(1, 1, 0, 0),), unit),)
    (None, True, 2, True)
    >>> twin, duo = (((a, a), unit),), (((a, b), unit),)
    >>> same_chances(twin, duo), same_chances(alone(twin, (1,)), alone(duo, (1,))), same_chances(alone(duo, (1, 0)), duo)
    (False, True, True)
    >>> same_chances(mixed(solo, middle, (1, 3)), mixed(toss, middle, (1, 3))), len(mixed(solo, toss, half))
    (True, 2)
    >>> shown = (((0,), 1), ((0, 1), 1))
    >>> wide = times_forms(sample_form(2, 2, 0, 0), sample_form(2, 2, 0, 1))
    >>> fitting_names((wide,), shown, 2) == ((renamed_form(wide, (1, 0)),),), law_fits((((wide,), unit),), shown)
    (True, False)
    >>> shown_law((((times_forms(sample_form(2, 2, 0, 1), sample_form(2, 2, 1, 1)),), unit),), shown, 2)
    raises CanNot()
    # apart
    >>> are_apart(both, (0,), (1,)), are_apart(duo, (0,), (1,)), are_apart(twin, (0,), (1,))
    (False, True, False)
    >>> turned, copied = (((b, a), half), ((a, b), half)), (((b, b), half), ((a, a), half))
    >>> are_apart(turned, (0,), (1,)), are_apart(copied, (0,), (1,)), apart_lots((((a, b, a), unit),))
    (True, False, [(0, 2), (1,)])
    >>> is_bond(both, (0,), (1,), (coin, ((2, 1),), (zero,))), is_bond(both, (0,), (1,), (coin, (unit,), ((2, 1),)))
    (True, False)
    >>> made, ones = (((product,), unit),), (((unit,), (zero,)),) * 2
    >>> signed_count(made, ones, (unit,)), signed_count(made, ones, (zero,)), is_samples_paper(made, (ones, (unit,)))
    ((2, 1), (-2, 1), True)
    >>> are_apart(both, (0,), (2,))
    raises NoPlace(place=2)
    # wishes
    >>> scatter, flip = wish_of(spread), even_source(((zero,), (unit,)))
    >>> scatter, central((1,), 2) == scatter, joint_spread((1,), (1,)) == scatter, wish_value(scatter, flip), wish_degree(scatter)
    (((((1,), (1,)), (-1, 1)), (((2,),), (1, 1))), True, True, (1, 4), 2)
    >>> cumulant((1,), 3), wish_moments(scatter), wish_columns((((), unit),))
    (((((1,), (1,), (1,)), (2, 1)), (((1,), (2,)), (-3, 1)), (((3,),), (1, 1))), ((1,), (2,)), ())
    >>> uneven = (((b,), (2, 3)), ((a,), (1, 3)))
    >>> law_wish(uneven, 0), is_right((((spread,), unit),), scatter), is_right(uneven, scatter)
    (((((1,),), (1, 1)),), True, False)
    >>> made_wish(((((2,), (1,)), half), (((1,), (2,)), half), ((), (0, 1)))), wish_less(scatter, scatter)
    (((((1,), (2,)), (1, 1)),), ())
    >>> wish_renamed(joint_spread((1, 0), (0, 2)), (1, 0)) == joint_spread((0, 1), (2, 0))
    True
    >>> law_wish(uneven, 1)
    raises NoPlace(place=1)
    # means
    >>> fair = (("any", ((2,),), ((1,), (-1, 1))), ("any", ((1,), (1,)), ((-1,), (0, -1, 1))))
    >>> plain = (("any", ((2,),), ((1,), (0, 1))), ("any", ((1,), (1,)), ((-1,), (0, 0, 1))))
    >>> same_for_all(fair, right_writing(scatter)), is_there(fair, 1), written_form(fair, 2, 1) == spread, first_unlike(fair, plain)
    (True, False, True, 2)
    >>> mean_table(plain)
    ((((1,), (1,)), ((1, -1), (0, 1))), (((2,),), ((-1, 1), (0, 1))))
    >>> rows_needed(cumulant((1,), 3)), same_mean(a, b), is_parting_source(a, spread, 1, flip)
    (2, True, True)
    >>> written_mean(fair, 1)
    raises Unfit()
    # seats
    >>> x, y, xy, one = (1, 0), (0, 1), (1, 1), (1, 1)
    >>> both, pair = (((0, 1), 1),), (((0,), 1), ((0, 1), 1))
    >>> shown_by(pair, 0), showing(pair, x), seating(pair, (y, x)), seatings(pair, (x,)), lacking_lot(both, (y, x))
    ((0,), (0, 1), (1, 0), [(0,), (1,)], (0, 1))
    >>> far, near, square = (((y, x), one),), (((y,), one), ((x,), one)), (((y, y), one),)
    >>> [can_tell(both, own) for own in (far, near, square)], can_tell(pair, far), first_lacking(pair, square), most_seated(pair, (y, y, x))
    ([False, True, False], True, (0, (0, 1)), 2)
    >>> is_right_form(pair, far, (((x, y), one),)), even_form(pair, (((x,), one),)) == ((((0, 0), x), (1, 2)), ((x, (0, 0)), (1, 2)))
    (True, True)
    >>> fewest_kinds(((0,), (0, 1)), far), least_kinds(((0,), (0, 1)), far), fewest_kinds(((0,),), far), needless_samples(pair, near)
    ((((0,), 1), ((0, 1), 1)), [(((0,), 1), ((0, 1), 1)), (((0, 1), 2),)], None, (0,))
    >>> seating(both, (xy, xy))
    raises CanNot()
    # shifts
    >>> o, half = (0, 1), (1, 2)
    >>> at = [((own, one),) for own in ((o, o), (o, one), (one, one))]
    >>> level, slope = (at[0], at[1]), (at[0], at[2])
    >>> feeling(pair, level), feeling(pair, slope), alike_in(level[0], level[1], (0,))
    ((1,), (0, 1), True)
    >>> wish_powers(slope, far), wish_powers(level, far), wish_powers(slope, near), form_powers(slope, right_form(pair, far))
    (((0, 1), (0, 1), (1, 1)), (), ((0, 1), (2, 1)), ((0, 1), (0, 1), (1, 1)))
    >>> is_shift(both, far, slope), is_shift(pair, square, level), is_shift(pair, square, slope), is_shift(pair, far, slope)
    (True, True, False, False)
    >>> moves(slope, (xy, y)), moves(level, (x, y))
    ([(1, 1), (1, 1)], [(0, 1), (1, 1)])
    >>> blind, apart = corner_mix((o, o), (one, one), (0, 1)), (((0,), 1), ((1,), 1))
    >>> blind[0] == (((o, o), half), ((one, one), half)), feeling(apart, blind), wish_powers(blind, (((xy,), one),)), unshown(apart, (((xy,), one),))
    (True, (), ((1, 2), (-1, 2)), ((1, 1),))
    >>> shift(pair, far)
    raises CanNot()
    # best
    >>> third, half, one = (1, 3), (1, 2), (1, 1)
    >>> first, second = ((((1,), (0,)), one),), ((((0,), (1,)), one),)
    >>> spread_wish(first), excess(first), excess(evened(first))
    (((((1,), (1,)), (-1, 1)), (((2,),), (1, 1))), ((((1,), (1,)), (-1, 2)), (((2,),), (1, 2))), ())
    >>> square, even = ((((1,), (1,)), one),), ((((0, 1),), half), ((one,), half))
    >>> pairs, two = best_program(square, 3, 1), ((((1,), (1,), (0,)), one),)
    >>> pairs == ((((0,), (1,), (1,)), third), (((1,), (0,), (1,)), third), (((1,), (1,), (0,)), third))
    True
    >>> wish_value(spread_wish(two), even), wish_value(spread_wish(pairs), even), beats(pairs, two, even), beats(two, pairs, even)
    ((3, 16), (5, 48), True, False)
    >>> coin = (((second,), half), ((first,), half))
    >>> dice_mean(coin) == evened(first), dice_excess(coin) == excess(first), best_mix(first, second, even), joint_wish(first, second)
    (True, True, (1, 2), ((((1,), (1,)), (1, 1)),))
    >>> best_program(square, 1, 1)
    raises CanNot()
    >>> worse_source(pairs)
    raises CanNot()
    >>> best_mix(first, (), even)
    raises Unfit()
    # noughts
    >>> kinds, one, none, x, y = (((0,), 1), ((0, 1), 2)), (1, 1), (0, 0), (1, 0), (0, 1)
    >>> best_with(kinds, (((x,), one),)) == tuple([(own, (1, 3)) for own in ((none, none, x), (none, x, none), (x, none, none))])
    True
    >>> second, away = (((none, y, none), one),), (((none, x, none), one), ((x, none, none), (-1, 1)))
    >>> quiet_columns(kinds, 1), is_level(kinds, second), is_best(kinds, second), is_nought(away)
    ((0,), False, False, True)
    >>> same = ((((0, 1), (0, 1)), (1, 2)), ((one, one), (1, 2)))
    >>> paper = (away, same)
    >>> is_beating_paper(kinds, second, paper), [wish_value(spread_wish(own), same) for own in (second, beaten_by(second, paper))]
    (True, [(1, 4), (1, 8)])
    >>> mean_over(away, (0,)), nought_basis(kinds, y)
    (((((0, 0), (0, 0), (0, 0)), ((((1, 0),), (-1, 1)),)), (((0, 0), (1, 0), (0, 0)), (((), (1, 1)),))), [((((0, 0), (0, 0), (0, 1)), (-1, 1)), (((0, 0), (0, 1), (0, 0)), (1, 1)))])
    >>> best_with(kinds, (((y,), one),))
    raises CanNot()
    # layers
    >>> half, mean, square = (1, 2), ((((1,),), (1, 1)),), ((((1,), (1,)), (1, 1)),)
    >>> coin = ((((0, 1),), half), (((1, 1),), half))
    >>> shared_mean(square, 1), layer(mean, 1)
    (((((1,), (1,), (2,)), (1, 1)),), ((((1,), (1,)), (-1, 1)), (((2,),), (1, 1))))
    >>> layers_at(square, coin), layer_shares(square, 3), part_form(square, coin, 1)
    ([(1, 16), (1, 16)], [(4, 3), (1, 3)], ((((0,),), (-1, 4)), (((1,),), (1, 2))))
    >>> best_spread(mean, 4), enough_samples(square, coin, (1, 100))
    (((((1,), (1,)), (-1, 4)), (((2,),), (1, 4))), 26)
    >>> own_spread(mean, 2, 1)
    ((((0,), (2,)), (1, 4)), (((1,), (1,)), (-1, 2)), (((2,), (0,)), (1, 4)))
    >>> zero, unit = ((((0, 1),), (1, 1)),), ((((1, 1),), (1, 1)),)
    >>> [is_spread_paper(mean, n, 1, (zero, unit)) for n in (1, 2)], is_spread_paper(mean, 1, 1, (zero, zero))
    ([True, False], False)
    >>> own_spread(mean, 1, 1)
    raises CanNot()
    # sums
    >>> one, less = (1, 1), (-1, 1)
    >>> square, spread = ((((1,), (1,)), one),), ((((0,), (2,)), one), (((1,), (1,)), less))
    >>> rows = (((1, 1),), ((2, 1),), ((4, 1),))
    >>> total_at(square, rows), unlike_at(square, rows), total_at(spread, rows), form_of(square, 1, 1)
    ((49, 1), (28, 1), (14, 1), ((((2,),), (1, 1)),))
    >>> in_unlike(square), from_unlike(square)[1:], in_unlike(spread) == spread
    (((((1,), (1,)), (1, 1)), (((2,),), (1, 1))), ((((2,),), (-1, 1)),), True)
    >>> right_value(square, rows), times_totals(square, scaled_total(square, (1, 2)))
    ((14, 3), ((((1,), (1,), (1,), (1,)), (1, 2)),))
    >>> right_value(square, rows[:1])
    raises CanNot()
    # keepers
    >>> fewest_kept(square), straight_kept(square), fewest_kept(spread), straight_kept(spread)
    (1, 3, 3, 5)
    >>> made_keeper(square, 1)
    (((0, 1),), ((((0, 1), (1, 1)), ((1, 0), (1, 1))),), (((2,), (1, 1)),))
    >>> adder = made_keeper(spread, 1)
    >>> kept_behind(adder, rows), told(adder, rows), merged(adder, kept_behind(adder, rows), kept_behind(adder, rows[:1]))
    (((3, 1), (7, 1), (21, 1)), (14, 1), ((4, 1), (8, 1), (22, 1)))
    >>> added_total(adder) == spread, taken_back(adder, ((3, 1), (7, 1), (21, 1)), rows[2]), slope(spread, (1,))
    (True, ((2, 1), (3, 1), (5, 1)), ((((1,),), (-2, 1)),))
    >>> sides = ((((1,),), one), (((2,),), one))
    >>> kept_forms(times_totals(sides, sides)) == (sides,)
    True
    >>> heads = ((), rows[:1], rows[1:2])
    >>> is_straight_paper(square, (heads, heads), 1), [is_slope_paper(square, (own, (rows,)), 1) for own in (((1,),), ((2,),))]
    (True, [True, False])
    >>> swap = (((0, 1), (1, 1)), ((((0, 1, 0), one),), (((1, 0, 0), one),)), (((1, 0), one),))
    >>> is_straight(swap), is_adder(swap), told(swap, rows)
    (True, False, (1, 1))
    >>> merged(swap, ((0, 1), (1, 1)), ((0, 1), (1, 1)))
    raises Unfit()
    # again
    >>> square, spread = ((((1,), (1,)), (1, 1)),), ((((1,), (1,)), (-1, 1)), (((2,),), (1, 1)))
    >>> root_of(3, 3), drawn(square, 2, 1), drawn(spread, 3, 1)
    ((2, 9), ((((1,), (1,)), (1, 2)), (((2,),), (1, 2))), ((((1,), (1,)), (-2, 3)), (((2,),), (2, 3))))
    >>> plain_form(square, 2, 1)
    ((((0,), (2,)), (1, 4)), (((1,), (1,)), (1, 2)), (((2,), (0,)), (1, 4)))
    >>> root_parts(square, 2)
    [((1, 2), ((((1,), (1,)), (1, 1)), (((2,),), (-1, 1)))), ((1, 1), ((((2,),), (1, 1)),))]
    >>> runs = right_runs(square, 2, (0, 1))
    >>> runs, runs_form(square, 2, 1, runs), right_runs(spread, 2, (0,))
    (((0, (3, 1)), (1, (-2, 1))), ((((1,), (1,)), (1, 1)),), ((0, (2, 1)),))
    >>> fewest_runs(spread, 3), fewest_runs(square, 2), fewest_runs(square, 1), wrong_root(square, 2, ((0, (1, 1)),))
    (1, 2, None, (1, 2))
    >>> right_runs(square, 2, (1,))
    raises CanNot()
    # leftout
    >>> mean, square, spread = ((((1,),), (1, 1)),), ((((1,), (1,)), (1, 1)),), ((((1,), (1,)), (-1, 1)), (((2,),), (1, 1)))
    >>> error_parts(square) == [spread], error_parts(spread), error_parts(mean)
    (True, [((((1,), (1,)), (1, 1)), (((2,),), (-1, 1)))], [])
    >>> left_form(square, 2, 1), left_error(square, 3), left_error(mean, 2)
    (((((1,), (1,)), (1, 1)),), (), ())
    >>> left_form(square, 1, 1)
    raises Unfit()
    >>> blend_mean(spread, ((2, (1, 1)),)), right_blend(spread, (2,)), right_blend(square, (1, 2))
    (((((1,), (1,)), (-1, 2)), (((2,),), (1, 2))), ((2, (2, 1)),), ((1, (-1, 1)), (2, (2, 1))))
    >>> fewest_sizes(square, (1, 2, 3)), fewest_sizes(spread, (1, 3, 4)), fewest_sizes(spread, (1,)), is_right_blend(square, ((2, (2, 1)),))
    ((1, 2), (3,), None, False)
    >>> off_form(mean, 2, 1), off_mean(mean, 3)
    (((((0,), (2,)), (1, 2)), (((1,), (1,)), (-1, 1)), (((2,), (0,)), (1, 2))), ((((1,), (1,)), (-1, 2)), (((2,),), (1, 2))))
    >>> right_blend(square, (3,))
    raises CanNot()
    # steady
    >>> half, rise, turn = (1, 2), (2, 2, (((0, 1), (1, 1)),)), (2, 2, (((0, 1), (1, 1)), ((1, 0), (-1, 1))))
    >>> ring_gain(rise, (0, 1, 1)), store(turn), gaining_ring(turn), is_store(rise, ())
    ((1, 1), (((1,), (1, 1)),), None, False)
    >>> most_step(rise), is_most_store(rise, half, (((1,), half),)), step_gain(rise, (2, 1, (((0,), half), ((1,), half))))
    ((1, 2), True, (1, 4))
    >>> away = ((((1,), (1,)), (1, 1)), (((2,), (0,)), (-1, 1)))
    >>> form_store(((((0,), (1,)), (1, 1)), (((1,), (0,)), (-1, 1))), 2, 1), ring_sum(away, 2, (((1, 1),), ((2, 1),)))
    (((((1,),), (1, 1)),), (-1, 1))
    >>> store(rise)
    raises CanNot()
    # papers
    >>> x, y, one, half = ((((1,), (0,)), (1, 1)),), ((((0,), (1,)), (1, 1)),), (1, 1), (1, 2)
    >>> solo, coin, two = (((x,), one),), (((y,), half), ((x,), half)), (((x, y), one),)
    >>> plan, lone = ((0, 0, (1, 0), half), (0, 1, (0, 1), half)), (((((((1,),), one),),), one),)
    >>> is_paper_for(("same", solo, coin), plan), is_so(("needs", solo, 2)), is_paper_against(("needs", solo, 2), (lone, ((0, 0, (0, 1), one),)))
    (True, False, True)
    >>> rise = (2, 2, (((0, 1), one),))
    >>> verdicts((("steady", rise), ("most", rise, half), ("most", rise, (1, 3))), ((0, 1), (((1,), half),), (0, 1)))
    ['against', 'for', 'against']
    >>> comes_of(("same", coin, coin), (("same", solo, coin),)), first_false((("most", rise, one), ("steady", rise))), is_so(("apart", two, (0,), (1,)))
    (True, 1, True)
    >>> is_so(("apart", two, (0,), (0,)))
    raises Unfit()
    # board
    >>> b = Board(2, (((0,), 1), ((0, 1), 1)))
    >>> b.want(((0, 1), (1, 0)), (1, 1)), b.can_tell(), b.take(((((1, 0), (0, 1)), (1, 1)),)), b.take(((((0, 0), (1, 1)), (1, 1)),))
    (None, True, 0, 1)
    >>> b.right_tickets(), b.error(1), b.same(0, 1), b.apart(0, 1)
    ((0,), ((((0, 1), (1, 0)), (-1, 1)), (((1, 1),), (1, 1))), False, False)
    >>> b.mark(), b.want(((0, 1), (0, 1)), (1, 1)), b.can_tell(), b.changed(0), b.more(1), b.can_tell(), b.changed(0)
    (0, None, False, ('right', 'seats'), 2, True, ('right',))
    >>> b.form(0), b.rename(1, (0, 2, 1)), b.apart(0, 1)
    (((((1, 0), (0, 1), (0, 0)), (1, 1)),), None, True)
    >>> b.undo(), b.undo(), b.undo(), b.join(1, 0, (-1, 1)), b.wish() == ((((0, 1), (1, 0)), (1, 1)),), len(b.form(1)), b.kinds()
    (None, None, None, None, True, 2, (((0,), 1), ((0, 1), 1)))
    >>> b.less(0)
    raises CanNot()
    >>> b.rename(0, (1, 0))
    raises Unfit()
    # desk
    >>> desk("kinds\nwant 1 2\nwant -1 1, 1\nwish\nseats\nmore 0\nseats\ntake 1/2: 2, 0 | -1: 1, 1 | 1/2: 0, 2\nright\nspread 0 0 | 1")
    ['1: 0', 'done', 'done', '-1 1, 1 | 1 2', 'no', '1', 'yes', '0', '0', '1/16']
    >>> desk("board 2 1: 0 | 1: 0 1\ntake 1: 1 0, 0 1\nform 0\nerror 0\ntake 1: 0 1, 0 0\nundo\nundo\nmean 0 0 0 | 1 1")
    ['done', '0', '1: 1 0, 0 1', '1 0 1, 1 0', 'refused Unfit', 'done', 'refused NothingDone', 'refused NoPlace']
    >>> desk("program\n columns x\n main draws 1\n   tell x.0\nform 0\nmean 0 1 | 2 | 6\nwant 1/0 1\nlook")
    raises BadLine(line=8)
"""


def examples():
    """The list of triples (row, what it shows or None, the files in whose section it stands)."""
    out, file = [], None
    for row in EXAMPLES.strip().split("\n"):
        row = row.strip()
        if row.startswith("# "):
            file = row[2:]
        elif row.startswith(">>> "):
            out.append((row[4:], None, file))
        elif row:
            out[-1] = (out[-1][0], row, file)
    return out


def shown(row, names):
    """What the document would show for this row."""
    try:
        return repr(eval(row, names))
    except (LookupError, ValueError) as error:
        values = ", ".join(f"{name}={value}" for name, value in vars(error).items())
        return f"raises {error.__class__.__name__}({values})"


class ExampleTest(unittest.TestCase):

    def test_examples(self):
        names, last, tried = {}, None, 0
        for row, result, file in examples():
            if file != last:
                # A section's own functions are meant where an example ahead gave their names to something else.
                for own in file.split():
                    module = importlib.import_module("everysource." + own)
                    names.update({name: getattr(module, name) for name, _ in entries(INTERFACE[own])})
                last = file
            if result is None:
                exec(row, names)
                continue
            with self.subTest(row=row):
                self.assertEqual(shown(row, names), result)
                tried += 1
        self.assertEqual(tried, 118)


if __name__ == "__main__":
    unittest.main()
