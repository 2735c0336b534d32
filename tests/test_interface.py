import ast
import importlib
import inspect
import os
import unittest

FOLDER = os.path.join(os.path.dirname(os.path.dirname(os.path.abspath(__file__))), "everysource")

INTERFACE = {
    "errors": "NoPlace(place), NothingDone(), BadLine(line), CanNot(), TooMuch(), Unfit()",
    "forms": "is_form(thing, n, c), sample_form(n, c, sample, column), number_form(n, c, x), form_at(form, rows), "
             "plus_forms(form, other), times_forms(form, other), scaled_form(form, x), form_degree(form), "
             "samples_of(form), columns_of(form, sample), renamed_form(form, order), is_even(form), evened(form), "
             "wider_form(form, n, c), pressed_form(form), fits(form, kinds), is_kinds(thing, c), "
             "kind_samples(kinds)",
    "sources": "is_source(thing, c), source_of(pairs), even_source(rows), chance_of(source, row), "
               "moment_at(source, moment), mixed_source(source, other, share), shown_source(source, columns), "
               "unlinked_source(source), moved_source(source, column, x, y)",
    "drawings": "is_law(thing, n, c), drawings(source, n), told_chances(teller, source, n), "
                "chance_told(teller, source, n, numbers), form_mean(form, source, n), form_spread(form, source, n), "
                "forms_together(form, other, source, n), law_means(teller, source, n), "
                "law_spreads(teller, source, n), are_apart_at(teller, source, n, lot, others)",
    "orbits": "all_orders(n), one_then(order, later), back(order), renamed_tells(tells, order), orbit(tells), "
              "least_name(tells), keepers(tells, n), alike_samples(tells, n), renaming(tells, other, n), "
              "is_renaming(tells, other, n, thing), hung_on(tells), filled(tells, n, c), packed(tells), "
              "orbit_weights(teller), even_law(teller)",
    "chances": "chance_gap(teller, other, source, told), same_chances(teller, other), parting(teller, other), "
               "is_parting(teller, other, thing), fewest_samples(teller), narrow_law(teller), "
               "alone(teller, places), mixed(teller, other, share), fitting_names(tells, kinds, c), "
               "law_fits(teller, kinds), shown_law(teller, kinds, c)",
    "apart": "are_apart(teller, lot, others), drawn_anew(teller, lot, others), apart_lots(teller), "
             "bond(teller, lot, others), is_bond(teller, lot, others, thing), signed_count(teller, pairs, numbers), "
             "samples_paper(teller), is_samples_paper(teller, thing)",
    "wishes": "is_moment(thing, c), is_wish(thing, c), made_wish(pairs), wish_value(wish, source), "
              "wish_degree(wish), wish_moments(wish), wish_columns(wish), wish_plus(one, other), "
              "wish_less(one, other), wish_times(one, other), wish_scaled(wish, x), wish_renamed(wish, order), "
              "joined_moment(moment, other), joint_spread(moment, other), central(moment, many), "
              "cumulant(moment, many), wish_of(form), law_wish(teller, place), is_right(teller, wish)",
    "means": "rows_needed(wish), showing_source(wish, c), same_mean(form, other), parting_source(form, other, c), "
             "is_parting_source(form, other, c, thing), is_writing(thing, c), is_there(writing, n), "
             "written_form(writing, n, c), written_mean(writing, n), mean_table(writing), same_for_all(one, "
             "other), first_unlike(one, other), right_writing(wish)",
    "seats": "shown_by(kinds, sample), showing(kinds, moment), is_seating(kinds, factors, thing), seating(kinds, "
             "factors), seatings(kinds, factors), most_seated(kinds, factors), is_lacking_lot(kinds, factors, "
             "thing), lacking_lot(kinds, factors), can_tell(kinds, wish), first_lacking(kinds, wish), "
             "part_told(kinds, wish), right_form(kinds, wish), even_form(kinds, wish), is_right_form(kinds, wish, "
             "thing), needless_samples(kinds, wish), least_kinds(seens, wish), fewest_kinds(seens, wish)",
    "shifts": "is_mix_of(thing, c), alike_in(source, other, seen), feeling(kinds, mix), wish_powers(mix, wish), "
              "form_powers(mix, form), moves(mix, moments), corner_mix(low, high, seen), joined_mix(mixes, "
              "weights), is_shift(kinds, wish, thing), shift(kinds, wish), blind_shift(kinds, wish), unshown(kinds, "
              "wish)",
    "best": "spread_wish(form), joint_wish(form, other), excess(form), best_program(wish, n, c), beats(form, "
            "other, source), worse_source(form), best_mix(form, other, source), dice_mean(teller), "
            "dice_excess(teller)",
    "noughts": "mean_over(form, lot), is_nought(form), nought_basis(kinds, sums), is_level(kinds, form), "
               "quiet_columns(kinds, sample), is_best(kinds, form), best_with(kinds, wish), beating_paper(kinds, "
               "form), is_beating_paper(kinds, form, thing), beaten_by(form, paper)",
    "layers": "shared_mean(wish, k), layer(wish, k), part_form(wish, source, k), layers_at(wish, source), "
              "layer_shares(wish, n), best_spread(wish, n), enough_samples(wish, source, most), own_spread(wish, n, "
              "c), spread_paper(wish, n, c), is_spread_paper(wish, n, c, thing)",
    "sums": "is_total(thing, c), total_at(total, rows), unlike_at(total, rows), plus_totals(total, other), "
            "times_totals(total, other), scaled_total(total, x), in_unlike(total), from_unlike(total), "
            "form_of(total, n, c), right_value(wish, rows)",
    "keepers": "is_keeper(thing, c), kept_behind(keeper, rows), told(keeper, rows), is_adder(keeper), "
               "is_straight(keeper), merged(keeper, kept, others), taken_back(keeper, kept, row), "
               "added_total(keeper), slope(total, powers), fewest_kept(total), straight_kept(total), "
               "kept_forms(total), made_keeper(total, c), straight_keeper(total, c), slope_paper(total, c), "
               "straight_paper(total, c), is_slope_paper(total, thing, c), is_straight_paper(total, thing, c)",
    "again": "root_of(n, k), drawn(wish, n, many), plain_form(wish, n, c), run_form(wish, n, c, t), root_parts(wish, "
             "n), fewest_runs(wish, n), is_runs(thing), runs_mean(wish, n, runs), runs_form(wish, n, c, runs), "
             "are_right_runs(wish, n, runs), right_runs(wish, n, numbers), wrong_root(wish, n, runs)",
    "leftout": "error_parts(wish), left_form(wish, n, c), left_error(wish, n), is_blend(thing), blend_mean(wish, "
               "blend), is_right_blend(wish, blend), right_blend(wish, sizes), fewest_sizes(wish, sizes), "
               "off_form(wish, n, c), off_mean(wish, n)",
    "steady": "is_gain(thing), is_stream(thing), ring_gain(gain, ring), step_gain(gain, stream), store(gain), "
              "is_store(gain, thing), gaining_ring(gain), most_ring(gain), most_step(gain), most_store(gain, bound), "
              "is_most_store(gain, bound, thing), form_store(form, n, c), ring_sum(form, n, rows), form_ring(form, n, "
              "c)",
    "programs": "is_program(thing), samples_in(program), ways(program), way_weight(program, way), way_tells(program, "
                "way), law_of(program), program_of(teller, samples, columns), joined(one, other, samples, further, "
                "count)",
    "proglines": "program_text(program), program_by(text)",
    "papers": "is_claim(thing), is_so(claim), paper(claim), is_paper_for(claim, thing), is_paper_against(claim, "
              "thing), is_matching(teller, further, thing), verdicts(claims, things), comes_of(claim, claims), "
              "first_false(claims)",
    "board": "Board(c, kinds)",
    "desk": "desk(text), is_request(thing)",
}

METHODS = (
    "kinds(), wish(), form(ticket), tickets(), more(kind), less(kind), want(factors, share), take(form), drop(ticket), "
    "rename(ticket, order), join(ticket, other, share), mark(), back(mark), undo(), can_tell(), error(ticket), "
    "right_tickets(), same(ticket, other), apart(ticket, other), changed(mark)")


def entries(text):
    """Pairs (name, list of arguments) of a line of the interface."""
    calls = ast.parse("[" + text + "]", mode="eval").body.elts
    return [(call.func.id, [own.id for own in call.args]) for call in calls]


class InterfaceTest(unittest.TestCase):

    def test_names_and_arguments(self):
        for file, text in INTERFACE.items():
            module = importlib.import_module("everysource." + file)
            for name, arguments in entries(text):
                if not arguments:
                    # Python shows no signature of an error class without a constructor of its own.
                    getattr(module, name)()
                    continue
                with self.subTest(file=file, name=name):
                    parameters = inspect.signature(getattr(module, name)).parameters
                    self.assertEqual(list(parameters), arguments)
                    for parameter in parameters.values():
                        self.assertEqual(parameter.kind, parameter.POSITIONAL_OR_KEYWORD)
                        self.assertIs(parameter.default, parameter.empty)

    def test_defined_where_it_is_listed(self):
        for file, text in INTERFACE.items():
            with open(os.path.join(FOLDER, file + ".py"), encoding="utf-8") as rows:
                tree = ast.parse(rows.read())
            defined = [row.name for row in tree.body if isinstance(row, (ast.FunctionDef, ast.ClassDef))]
            for name, _ in entries(text):
                self.assertEqual(defined.count(name), 1, name)

    def test_methods(self):
        board = importlib.import_module("everysource.board").Board
        for name, arguments in entries(METHODS):
            with self.subTest(name=name):
                parameters = inspect.signature(vars(board)[name]).parameters
                self.assertEqual(list(parameters)[1:], arguments)
                for parameter in parameters.values():
                    self.assertEqual(parameter.kind, parameter.POSITIONAL_OR_KEYWORD)
                    self.assertIs(parameter.default, parameter.empty)

    def test_errors(self):
        errors = importlib.import_module("everysource.errors")
        for name, base in (("NoPlace", LookupError), ("NothingDone", LookupError), ("BadLine", ValueError),
                           ("CanNot", ValueError), ("TooMuch", ValueError), ("Unfit", ValueError)):
            self.assertEqual(getattr(errors, name).__bases__, (base,))


if __name__ == "__main__":
    unittest.main()
