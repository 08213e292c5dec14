"""[3] and the interface: each name stands in its file, with its arguments, and all can be given by name."""

import importlib
import inspect
import unittest

from cordrules.live import Plait

INTERFACE = {
    "rows": """order_of(cords, row) order_on_way(cords, row) way_of(cords, row, cord) back_row(cords, row)
        mirrored(cords, row) turned_over(cords, row) beside(cords, row, far_cords, far_row)
        moved(cords, row, far_cords, by) cuts_of(cords, row) pieces_of(cords, row)""",
    "weaves": """met(cords, row) crossed(cords, row, cord, far_cord) heights_of(cords, row)
        is_heights(cords, row, heights) flattened(cords, row) turned_at(cords, row, numbers)""",
    "layers": """layers_of(cords, row) is_far_one(cords, row, other) far_least(cords, row) far_greatest(cords, row)
        far_count(cords, row) far_rows(cords, row) far_steps(cords, row, other) far_chain(cords, row, other)
        exchanged(cords, row, numbers) loose_count(cords, row)""",
    "rules": """need_rule(rule) need_colours(cords, rule, colours) is_colour(rule, value) on_colour(rule, over, under)
        off_colour(rule, over, under) run_colours(cords, row, rule, colours)
        way_of_colours(cords, row, rule, colours) colours_of(rule) as_table(rule)""",
    "breaches": """keeps(rule, custom) custom_of(rule) breach(rule) fails_at(rule, custom, number, colours)
        common_custom(rule, far_rule)""",
    "tables": """is_closed(rule, colours) closed_with(rule, colours) closed_lots(rule) table_within(rule, colours)
        renamed_table(rule, colours) renamings_between(rule, far_rule) least_table(rule)
        pair_table(rule, far_rule)""",
    "partings": "goes_well(rule, lots) least_parting(rule, pairs) all_partings(rule) table_of_lots(rule, lots)",
    "filled": "all_tables(many, custom) table_count(many, custom) matched_table(many, custom, deeds)",
    "terms": """need_term(cords, term) parts_of(cords, term) cord_of(cords, term) is_least(cords, term)
        least_term(cords, term) term_behind(cords, side, term, far_term, custom)
        colour_of_term(cords, rule, colours, term)""",
    "words": """need_letters(cords, letters) least_word(cords, letters) letters_back(cords, letters)
        word_joined(cords, letters, far_letters) sign_sums(cords, letters) word_of_term(cords, term)
        colour_of_letters(cords, rule, colours, letters, cord)""",
    "likeness": """customs() need_forms(cords, custom, forms) beginning_forms(cords, custom)
        forms_of(cords, row, custom) forms_on(cords, custom, forms, row) are_alike(cords, row, other, custom)
        weakest_custom(cords, row, other) stronger_forms(cords, custom, forms, far_custom)
        pair_number(cords, row, cord, far_cord) pair_numbers(cords, row)""",
    "parting": """check_parting(cords, row, other, custom, paper) part_rows(cords, row, other, custom)
        rule_for(cords, many_rows, custom) told_apart(cords, many_rows, rule, colours)""",
    "smallest": """first_parting(cords, row, other, rule) parting_count(cords, row, other, rule)
        smallest_table(cords, row, other, custom) smallest_acts(cords, row, other)""",
    "shown": """taken_back(cords, custom, forms, row) is_shown(cords, custom, forms) row_of_forms(cords, custom, forms)
        shown_paper(cords, custom, forms) check_shown(cords, custom, forms, paper)""",
    "peeled": """weights_of(cords, forms) next_peeled(cords, forms) peeled(cords, forms) peeled_row(cords, row)""",
    "among": """deeds_of(cords, forms) next_states(cords, forms, state) how_many_rows(cords, forms)
        row_among(cords, forms, number) number_among(cords, row)""",
    "kinds": """kind_number(cords, row, custom) kind_row(cords, custom, number) kinds_total(cords, custom)
        kinds_by_length(cords, custom, number)""",
    "threes": """half_turns(row) need_halves(halves) row_of_halves(halves) fewest_of_halves(halves)
        halves_joined(halves, far_halves) halves_back(halves)""",
    "steps": """fewest(cords, row, custom) is_shortest(cords, row, custom) least_row(cords, row, custom)
        how_far(cords, row, other, custom) row_between(cords, row, other, custom) farthest(cords, custom)""",
    "again": """row_again(cords, row, many) period(cords, row, custom) times(cords, row, other, custom)
        both_times(cords, row, other, custom) forms_after(cords, row, many, custom)""",
    "past": """goes_past(cords, row, other, custom) first_not_past(cords, row, custom)
        goes_past_all(cords, row, custom)""",
    "changes": "fewest_changes(cords, row, other, custom) ways_of_changes(cords, row, other, custom)",
    "books": """need_book(book) difference(cords, row, other) book_numbers(custom, book) says(custom, book, far_book)
        unsaid(custom, book, far_book) spare_triples(custom, book) least_part(custom, book)""",
    "follow": """book_form(cords, row, custom, book) does_follow(cords, row, other, custom, book)
        book_kinds(cords, custom, book) book_period(cords, row, custom, book)
        least_alike(cords, row, custom, book)""",
    "plain": """rule_numbers(rule) does_rule_follow(rule, book) plain_rule(custom, book) plain_book(custom, book)
        follow_paper(cords, row, other, custom, book) check_follow(cords, row, other, custom, book, paper)
        turns_count(custom, book, modulus, many)""",
    "doings": """doing_of(cords, row, rule) what_parts(cords, row, other, rule) kinds_over(cords, rule)
        least_over(cords, row, rule) row_of_doing(cords, rule, doing) doing_paper(cords, rule, doing)
        check_doing(cords, rule, doing, paper) again_and_again(cords, row, rule)""",
    "beside": """sees_as_much(cords, rule, far_rule) beside_paper(cords, rule, far_rule)
        check_beside(cords, rule, far_rule, paper) first_mistake(cords, rule, custom)""",
    "brought": """brought_from(cords, rule, colours) row_brought(cords, rule, colours, goal)
        brought_paper(cords, rule, colours, goal) check_brought(cords, rule, colours, goal, paper)
        rounds_of(cords, rule) still_ones(cords, rule) rows_brought(cords, rule, colours, goal, many)""",
    "gaps": """need_gapped(gapped) gaps_of(many) does_fill(gapped, rule) fillings(gapped, custom)
        sure_table(gapped, custom) with_item(gapped, side, over, under, value)""",
    "sights": """need_seen(many, seen) first_against(rule, seen) does_bear(rule, seen) fitting(gapped, custom, seen)
        needless(gapped, custom, seen) sure_colours(gapped, custom, seen, cords, row, colours)
        possible_sights(gapped, custom, seen, cords, row, colours)""",
    "closing": """nodes_behind(names, custom, seen, cords, row, colours) one_lots(names, custom, seen)
        is_borne(names, custom, seen) bearing_table(names, custom, seen)
        sure_names(names, custom, seen, cords, row, colours)
        same_places(names, custom, seen, cords, row, colours)""",
    "papers": """sure_paper(names, custom, seen, cords, row, colours, place, name)
        check_sure(names, custom, seen, cords, row, colours, place, name, paper)
        against_paper(names, custom, seen) check_against(names, custom, seen, paper)""",
    "trials": """need_menu(many, menu) lots_by(gapped, custom, seen, menu) fewest_trials(gapped, custom, seen, menu)
        best_trial(gapped, custom, seen, menu) best_plan(gapped, custom, seen, menu)
        led_by(gapped, custom, seen, menu, rule) need_plan(gapped, custom, seen, menu, plan)
        does_settle(gapped, custom, seen, menu, plan) depth_of(plan) least_lot(gapped, custom, seen, menu)
        needed_trials(gapped, custom, seen, menu) idle_trials(gapped, custom, seen, menu)""",
    "texts": """row_text(cords, row) forms_text(cords, custom, forms) rule_text(rule) book_text(book)
        read_row(cords, text) read_forms(cords, text) read_rule(text) read_book(text)""",
    "sheets": "sheet_told(text) judged(text)",
    "live": "under(manager, deed)"}
# By modules the classes: what they are made of, their methods, their fields, their properties.
CLASSES = {
    "kinds": {"Kinds": (
        "Kinds(cords, custom)", "number_of(row) row_of(number) next_of(number) many_shortest(number)",
        {"cords": 3, "custom": "twice"}, "")},
    "live": {"Plait": (
        "Plait(cords, custom)", """order() cross(crossing) work(row) undo(*, many=1) again(*, many=1) mark(name)
        is_home(name) forms() colours(rule, colours) copy() trial() __len__() __eq__(other)""",
        {"cords": 3, "custom": "twice"}, "row marks")},
    "guide": {"Guide": (
        "Guide(plait, book, goal)", "is_there() way_left() left() due() go()",
        {"plait": Plait(2, "began"), "book": (), "goal": (("left", 0),)}, "plait book goal")},
    "desk": {"Desk": ("Desk()", "say(line)", {}, "plait guide")}}


def listed(text):
    """Pairs of a name and the names of its arguments."""
    for part in " ".join(text.split()).split(")"):
        if part:
            name, arguments = part.split("(")
            yield name.strip(), [word for word in arguments.split(", ") if word]


def plain_arguments(test, function, arguments):
    """Whether a function takes just these arguments, by position or by name, those behind a star by name alone."""
    parameters = inspect.signature(function).parameters.values()
    by_name = arguments[arguments.index("*") + 1:] if "*" in arguments else []
    names = [word for word in arguments if word != "*"]
    test.assertEqual([one.name for one in parameters], [word.split("=")[0] for word in names], function)
    for one, word in zip(parameters, names):
        test.assertEqual(one.kind, one.KEYWORD_ONLY if word in by_name else one.POSITIONAL_OR_KEYWORD)
        test.assertEqual(one.default, int(word.split("=")[1]) if "=" in word else one.empty)


class TestInterface(unittest.TestCase):
    def test_classes(self):
        for word, classes in CLASSES.items():
            module = importlib.import_module("cordrules." + word)
            for name, (made, methods, fields, properties) in classes.items():
                cls = getattr(module, name)
                self.assertEqual(cls.__module__, "cordrules." + word)
                plain_arguments(self, cls, dict(listed(made))[name])
                one = cls(**fields)
                for method, arguments in listed(methods):
                    self.assertIn(method, vars(cls))
                    plain_arguments(self, getattr(one, method), arguments)
                for field, value in fields.items():
                    self.assertIs(getattr(one, field), value)
                for word_of_one in properties.split():
                    self.assertIsInstance(vars(cls)[word_of_one], property)
                    with self.assertRaises(AttributeError):
                        setattr(one, word_of_one, None)

    def test_names_and_arguments(self):
        for word, text in INTERFACE.items():
            module = importlib.import_module("cordrules." + word)
            for name, arguments in listed(text):
                function = getattr(module, name)
                self.assertEqual(function.__module__, "cordrules." + word)
                plain_arguments(self, function, arguments)


if __name__ == "__main__":
    unittest.main()
