"""The names, arguments and kinds of the interface, module by module."""

import importlib
import inspect
import unittest

FUNCTIONS = {
    "plans.plan_faults": "(house, plan, *, short=False)",
    "plans.counts_of": "(house, plan)",
    "plans.walk_plan": "(house, plan, *, short=False)",
    "firsts.first_choice": "(house, people)",
    "firsts.room_left": "(house, people)",
    "firsts.most_of": "(house, people)",
    "firsts.growth": "(house, people, person)",
    "covers.most_stretches": "(house)",
    "covers.cover_fault": "(house, cover)",
    "covers.outside_nights": "(house, cover)",
    "covers.stretches_of": "(house, cover)",
    "covers.ends_from": "(house, cover, person)",
    "covers.bound_of": "(house, cover, people)",
    "cheapest.price_of": "(house, cover, prices)",
    "cheapest.cheapest": "(house, prices)",
    "cheapest.cover_of": "(house, people)",
    "orders.one_after_another": "(house, order)",
    "orders.order_counts": "(house, order)",
    "settle.settle": "(house, told)",
    "judge.judge": "(house, told)",
    "judge.can_be_true": "(house, told)",
    "judge.excess_of": "(house, cover, told)",
    "judge.greatest_excess": "(house, told)",
    "sets.refusing_set": "(house, told)",
    "sets.set_by_set": "(house, told)",
    "leavers.judge_leaving": "(house, told)",
    "worlds.has_world": "(house, bounds)",
    "worlds.find_world": "(house, bounds)",
    "worlds.raised": "(house, bounds, order)",
    "worlds.group_most": "(house, bounds, people)",
    "worlds.group_least": "(house, bounds, people)",
    "answers.form_most": "(house, bounds, form)",
    "answers.form_least": "(house, bounds, form)",
    "answers.answer": "(house, bounds, form, number)",
    "slips.one_slip": "(house, told)",
    "slips.two_slips": "(house, told)",
    "rows.turned": "(row)",
    "rows.first_row": "(run, rest)",
    "rows.plain_row": "(run, rest)",
    "rows.row_allows": "(row, numbers)",
    "rows.row_witness": "(row, numbers)",
    "alike.lets_all": "(row, other)",
    "alike.parting": "(row, other)",
    "alike.both_rows": "(row, other)",
    "alike.either_rows": "(row, other)",
    "compare.can_be_watched": "(house)",
    "compare.compare": "(house, other)",
    "helpers.helpers_needed": "(house)",
    "latest.longest_rest": "(house, told)",
    "latest.latest_coming": "(house, told, person)",
    "extra.extra_wants": "(house, told, night)",
    "nearest.nearest": "(house, told)",
    "walks.walk_tellings": "(house)",
    "walks.count_tellings": "(house)",
    "walks.nth_telling": "(house, index)",
    "walks.rank_telling": "(house, told)",
    "rowcounts.row_count": "(row, people)",
    "evenness.evenest": "(house)",
    "routes.route": "(house, told, wished)",
    "surely.tight_covers": "(house, told)",
    "surely.settled": "(house, told, cover)",
    "weeks.kept_after": "(week, people, weeks)",
    "rates.rate_of": "(week, people)",
    "lasting.lasting": "(week, shares)",
    "lasting.numbers_after": "(shares, weeks)",
    "tonight.after_tonight": "(house, told, people)",
    "tonight.thresholds": "(house, told)",
    "tonight.tonight_fault": "(house, told, people)",
    "tonight.must_watch": "(house, told)",
    "tonight.may_watch": "(house, told)",
    "tonight.sparing_set": "(house, told)",
    "reader.read_line": "(line, number=1)",
    "reader.read_script": "(text)",
    "printer.print_statement": "(statement)",
    "printer.print_script": "(statements)",
    "tables.table_lines": "(headings, rows, sides)",
}

CLASSES = {
    "wants.Wants": {
        "__init__": "(self, numbers)", "of": "(*numbers, times=1)",
        "__len__": None, "__iter__": None, "__getitem__": None, "__add__": None,
        "__mul__": None, "__rmul__": None, "__lshift__": None, "__rshift__": None,
        "__neg__": None, "__abs__": None,
    },
    "tellings.Telling": {
        "__init__": "(self, entries)", "no_steeper": "(self, other)",
        "moved": "(self, giver, taker, count=1)",
        "__len__": None, "__iter__": None, "__getitem__": None, "__eq__": None,
        "__lt__": None, "__add__": None, "__mul__": None, "__rmul__": None,
        "__xor__": None, "__abs__": None,
    },
    "houses.House": {
        "__init__": "(self, wants, comings, *, rest=1)",
        "all_there": "(wants, people, *, rest=1)",
        "changed": "(self, *, wants=None, comings=None, rest=None)",
        "here": "(self, night)", "stretch": "(self, end)",
        "nights": property, "people": property, "whole": property,
    },
    "plans.Plan": {
        "__init__": "(self, rows)", "nights_of": "(self, person)", "__len__": None,
        "__iter__": None, "__getitem__": None, "__neg__": None, "__add__": None,
    },
    "drafts.Draft": {
        "__init__": "(self, house)", "put": "(self, night, person)",
        "take": "(self, night, person)", "as_plan": "(self)", "__len__": None,
        "__iter__": None, "__getitem__": None, "__setitem__": None,
        "placed": property, "vacant": property,
    },
    "covers.Cover": {
        "__init__": "(self, ends)", "__len__": None, "__iter__": None, "__contains__": None,
    },
    "settle.Settlement": {},
    "judge.Verdict": {"holds": property},
    "leavers.LeavingHouse": {
        "__init__": "(self, wants, leavings, *, rest=1)", "mirror": "(self)",
    },
    "leavers.LeavingVerdict": {},
    "bounds.Bounds": {
        "__init__": "(self, lows, highs)", "exact": "(numbers)", "up_to": "(people, most)",
        "crossed": "(self)", "pinned": "(self, person, low, high)",
        "__len__": None, "__and__": None, "__or__": None, "__contains__": None,
    },
    "forms.Form": {
        "__init__": "(self, weights)", "of": "(people, *persons)", "order": "(self)",
        "__call__": "(self, told)", "__len__": None, "__add__": None, "__sub__": None,
        "__mul__": None, "__rmul__": None, "__neg__": None,
    },
    "answers.Extreme": {},
    "answers.Answer": {},
    "spans.Span": {
        "__init__": "(self, run, rest)", "empty": "(rest)", "held": "(self, enter, leave, count)",
        "joined": "(self, other)", "row": "(self)",
    },
    "nearest.Nearest": {},
    "evenness.Evenest": {},
    "exact.Exact": {
        "__init__": "(self, top, bottom=1)", "sum_of": "(fractions)", "below": "(self, other)",
        "same": "(self, other)", "text": "(self)", "__add__": None, "__sub__": None,
        "__mul__": None, "__rmul__": None, "__neg__": None, "__abs__": None, "__pow__": None,
        "__floordiv__": None,
    },
    "weeks.Week": {"__init__": "(self, run, rest)", "written_out": "(self, weeks, people)"},
    "rates.Rate": {},
    "lasting.Lasting": {"lasts": property},
    "history.History": {
        "__init__": "(self)", "done": property, "undone": property, "deeds": "(self)",
        "undo": "(self)", "redo": "(self)", "all_of": "(self, deeds)",
    },
    "desks.Desk": {
        "__init__": "(self, house, told)", "now": property, "kept": property, "left": property,
        "mode": property, "switch": "(self, word)", "still_kept": "(self)",
        "free_tonight": "(self)", "choose": "(self)", "ahead": "(self)", "house_now": "(self)",
        "told_now": "(self)", "rows_so_far": "(self)", "outlook": "(self)", "tonight": "(self)",
        "do": "(self, deed)", "watch": "(self, people)",
    },
    "books.Book": {
        "__init__": "(self)", "do": "(self, deed)", "set_nights": "(self, *numbers)",
        "add_person": "(self, name, coming=1)", "tell": "(self, **numbers)", "names": "(self)",
        "records": "(self)", "told_house": "(self)", "told_bounds": "(self)",
        "state_word": "(self)", "spread": "(self, name)", "ask": "(self, number, *names)",
    },
    "runner.Runner": {"__init__": "(self)", "run": "(self, text)"},
}


def found_at(path):
    """Return what the interface lists under `file.name`, and its module's name."""
    file, name = path.split(".")
    module = importlib.import_module("nightsoff." + file)
    return getattr(module, name), module.__name__


class Interface(unittest.TestCase):
    def test_functions(self):
        for path, wanted in FUNCTIONS.items():
            with self.subTest(path):
                found, module = found_at(path)
                self.assertTrue(inspect.isfunction(found))
                self.assertEqual(found.__module__, module)
                self.assertEqual(str(inspect.signature(found)), wanted)

    def test_classes(self):
        for path, methods in CLASSES.items():
            found, module = found_at(path)
            self.assertTrue(inspect.isclass(found))
            self.assertEqual(found.__module__, module)
            for name, wanted in methods.items():
                with self.subTest(f"{path}.{name}"):
                    self.assertIn(name, vars(found))
                    if wanted is property:
                        self.assertIsInstance(vars(found)[name], property)
                    elif wanted is not None:
                        self.assertEqual(str(inspect.signature(getattr(found, name))), wanted)

    def test_class_methods(self):
        for path in ("wants.Wants.of", "houses.House.all_there", "bounds.Bounds.exact",
                     "bounds.Bounds.up_to", "forms.Form.of", "spans.Span.empty"):
            file, name = path.rsplit(".", 1)
            self.assertIsInstance(vars(found_at(file)[0])[name], classmethod)

    def test_static_methods(self):
        self.assertIsInstance(vars(found_at("exact.Exact")[0])["sum_of"], staticmethod)

    def test_base_classes(self):
        history, _ = found_at("history.History")
        for path in ("desks.Desk", "books.Book"):
            self.assertEqual(found_at(path)[0].__bases__, (history,))

    def test_walks_are_generators(self):
        for path in ("plans.walk_plan", "walks.walk_tellings"):
            self.assertTrue(inspect.isgeneratorfunction(found_at(path)[0]))
