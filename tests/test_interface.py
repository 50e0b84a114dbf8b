"""The interface: names, arguments, and where each function, class and method is defined."""

import importlib
import inspect
import unittest

FUNCTIONS = {
    "values": ["is_integer(thing)", "is_number(thing)", "is_value(thing)", "is_error(thing)", "plain(value)",
               "first_error(values)"],
    "names": ["is_name(thing)", "is_range(thing)", "column_of(read, column)", "with_column(read, part)"],
    "formulas": ["is_formula(thing)", "fits(formula, place)", "is_linear(formula)", "parts(formula)", "reads(formula)",
                 "depth(formula)", "with_reads(formula, reads)"],
    "notation": ["show_formula(formula)", "read_formula(text)", "show_at(formula, column, row)",
                 "read_at(text, column, row)"],
    "led": ["led(formula, column, to, places)"],
    "edits": ["put_column(sheet, at, column)", "strike_column(sheet, at)", "move_column(sheet, at, to)",
              "exchange(sheet, at, to)", "copy_columns(sheet, at, to, many)", "set_formula(sheet, at, place, formula)"],
    "graph": ["web_of(sheet)", "next_on(web, rows, cell)", "next_from(web, rows, cell)"],
    "walks": ["is_walk(web, rows, thing)", "is_web_ring(web, rows, thing)", "is_loop(web, thing)",
              "walk_between(web, rows, start, goal)", "sum_of(loop)"],
    "parts": ["parts(web)", "way(web, part)"],
    "slopes": ["is_slope(web, columns, thing)", "slope(web, part)"],
    "rings": ["against(web, part)", "is_against(web, part, thing)", "least_ring(web)", "first_ring(sheet)",
              "ring_at(web, rows)", "ringed(web, rows)"],
    "orders": ["is_plan(web, thing)", "is_web_order(web, rows, thing)", "plan(web)", "order_by(plan, rows)",
               "first_late(web, rows, cells)"],
    "sweeps": ["are_sweeps(web, thing)", "is_row(web, thing)", "fewest_sweeps(web, first)",
               "row_needs(web, first, row)", "sweeps(web, first)", "needing_row(web, first)"],
    "reach": ["hangs(web, rows, cell, other)", "is_bar_between(web, rows, cell, other, thing)",
              "hanging_on(web, rows, cell)", "hanging_from(web, rows, cell)", "depends(web, rows, here, there)",
              "bar_between(web, rows, cell, other)"],
    "distances": ["distances(web, here, there)", "is_distance(tide, number)", "are_steps(web, here, there, thing)",
                  "count_distances(tide, low, high)", "steps_for(web, here, there, number)"],
    "contents": ["is_contents(sheet, rows, thing)", "only_inputs(sheet, rows, contents)",
                 "lengthened(sheet, rows, contents, more)"],
    "working": ["worked_out(formula, others)"],
    "reckoning": ["next_cells(sheet, rows, address)", "hanging(sheet, rows, address)", "on_rings(sheet, rows)",
                  "value_at(sheet, rows, contents, address)", "values(sheet, rows, contents)", "order_for(sheet, rows)",
                  "is_order(sheet, rows, thing)", "is_ring(sheet, rows, thing)"],
    "anew": ["reached(sheet, rows, address)", "changed(sheet, rows, contents, later)"],
    "rising": ["is_rising(sheet)", "is_flows(sheet, thing)", "first_values(sheet, flows, rows)",
               "shares(sheet, column, row)"],
    "far": ["far_value(sheet, flows, column, row, modulus)", "far_total(sheet, flows, column, row, modulus)"],
    "alike": ["are_alike(sheet, one, other)", "is_parting(sheet, one, other, thing)", "plain_column(sheet, column)",
              "parting(sheet, one, other)", "alike_columns(sheet)"],
    "goals": ["form_at(sheet, rows, address)", "is_solution(sheet, rows, contents, goal, moving, thing)",
              "solutions(sheet, rows, contents, goal, moving)", "bar(sheet, rows, contents, goal, moving)",
              "is_bar(sheet, rows, contents, goal, moving, thing)"],
    "whatif": ["what_if(sheet, rows, contents, address, moving, lists)",
               "table(sheet, rows, contents, address, one, other, firsts, seconds)",
               "first_with(sheet, rows, contents, goal, one, low, high)"],
    "levels": ["level(web, rows, cell)", "rounds(web, rows)", "busiest(web, rows)", "far_level(web, column, row)",
               "level_walk(web, rows, cell)", "round_cells(web, rows, number)", "levels(web, rows)"],
    "rates": ["rate(web, part)", "rate_paper(web, part)", "is_rate_paper(web, part, thing)",
              "longest_between(web, part, rows, start, goal)"],
    "charts": ["show_levels(web, rows)", "show_rounds(web, rows)", "draws(web, thing)", "read_levels(text)"],
    "texts": ["show_sheet(sheet)", "show_contents(contents)", "show_cell(address, rows)", "show_value(value)",
              "show_grid(sheet, rows, contents)"],
    "readers": ["read_sheet(text)", "read_contents(text)", "read_cell(text, rows)"],
    "chains": ["leads_once(sheet, rows, address, cell)", "chain(sheet, rows, address, cell)"],
    "lots": ["is_lot(thing)", "in_lot(lot, value)", "all_values()", "lot_of(value)", "other_lot(lot)", "both_lots(one, other)"],
    "leading": ["led_back(formula, index, place, others, lot)"],
    "back": ["back(sheet, rows, contents, address, cell, lot)", "numbers_for(sheet, rows, contents, address, cell, value)",
             "errors_for(sheet, rows, contents, address, cell)", "outcomes(sheet, rows, contents, address, cell, values)",
             "nearest(sheet, rows, contents, address, cell, value)"],
    "asks": ["input_columns(sheet)", "is_entry(sheet, thing)", "is_test(thing)", "entry_at(sheet, contents, row)", "column_asked(test)",
             "test_answer(test, value)", "told_by(test)"],
    "checks": ["is_check(thing)", "fits_sheet(check, sheet)", "tests_of(check)", "asked_of(check, entry)", "check_answer(check, entry)"],
    "classes": ["bands(tests)", "class_entries(sheet, checks)", "class_entry(sheet, checks, entry)", "are_like(sheet, checks, one, other)",
                "entry_apart(sheet, one, other)"],
    "safe": ["outcome(checks, order, entry)", "are_in_order(checks, thing)", "is_stuck(sheet, checks, thing)", "must_lead(sheet, checks, one, other)",
             "broken_entry(sheet, checks, order)", "safe_order(sheet, checks)", "stuck(sheet, checks)"],
    "guards": ["are_guards(sheet, checks, at, thing)", "all_guards(sheet, checks, at)", "least_guards(sheet, checks, at)",
               "bare_entry(sheet, checks, at)"],
    "sure": ["is_kept(checks, entry)", "covers(sheet, one, other)", "is_ready(sheet, column)", "entry_between(sheet, one, other)",
             "needless(sheet, checks)", "divisors(formula)", "zero_entry(sheet, checks, column)", "protecting(sheet, checks, column)"],
}
CLASSES = {
    ("sheets", "Sheet(columns)"): ["columns(self)", "inputs(self, rows)", "addresses(self, rows)",
                                   "formula_at(self, address, rows)", "means(self, address, read, rows)"],
    ("graph", "Web(many, edges)"): ["edges(self)"],
    ("anew", "Live(sheet, rows, contents)"): ["value(self, address)", "put(self, address, number)", "worked(self)",
                                              "contents(self)"],
    ("book", "Book(sheet, *, rows=0, rings=True)"): ["contents(self)", "value(self, address)", "do(self, edit)", "do_all(self, edits)",
                                                     "back(self)", "again(self)", "log(self)", "copied(self)"],
    ("desk", "Desk(sheet)"): ["execute(self, line)", "book(self)"],
    ("spans", "Spans(pairs)"): ["pairs(self)", "least(self)", "many(self)"],
    ("wards", "Ward(book, checks)"): ["do(self, edit)", "do_all(self, edits)", "refusals(self, edit)", "back(self)", "again(self)",
                                      "book(self)", "checks(self)", "order(self)", "copied(self)"],
}
PROPERTIES = {("book", "Book"): ["sheet", "rows", "rings"]}
OPERATORS = {"Sheet": ["__len__", "__eq__", "__getitem__"], "Web": ["__len__", "__eq__", "__invert__"],
             "Live": ["__init__"], "Book": ["__len__", "__eq__"], "Desk": ["__init__"], "Ward": ["__eq__"],
             "Spans": ["__iter__", "__len__", "__contains__", "__or__", "__and__", "__sub__", "__invert__", "__eq__"]}

ERRORS = ["Wrong(place)", "NoColumn(column)", "NoRow(row)", "NoFit(place)", "Beyond(at)", "Ring(ring)", "NoPlan(length)", "NotLinear(address)",
          "NotOnce(cell)", "NoCell(address)", "NoInput(address)", "Stopped(index)", "Refused(row, at)", "Unasked(at)", "NotReady(column)",
          "Stuck(lot)", "NoText(line)"]


class Interface(unittest.TestCase):
    def defined(self, file, told):
        module = importlib.import_module(f"longsheet.{file}")
        name = told.split("(")[0]
        thing = getattr(module, name)
        self.assertEqual(thing.__module__, f"longsheet.{file}")
        self.assertEqual(name + str(inspect.signature(thing)), told)
        return thing

    def test_functions(self):
        for file, functions in FUNCTIONS.items():
            for told in functions:
                self.assertTrue(inspect.isfunction(self.defined(file, told)), told)

    def test_classes(self):
        for (file, told), methods in CLASSES.items():
            found = self.defined(file, told)
            for method in methods:
                own = vars(found)[method.split("(")[0]]
                self.assertEqual(method.split("(")[0] + str(inspect.signature(own)), method)
            for method in OPERATORS[found.__name__]:
                self.assertIn(method, vars(found))

    def test_properties(self):
        for (file, name), told in PROPERTIES.items():
            found = getattr(importlib.import_module(f"longsheet.{file}"), name)
            for one in told:
                self.assertIsInstance(vars(found)[one], property)

    def test_errors(self):
        module = importlib.import_module("longsheet.errors")
        for told in ERRORS:
            name, _, rest = told.partition("(")
            self.assertEqual(str(inspect.signature(getattr(module, name))), "(" + rest)
            self.assertEqual(getattr(module, name).__module__, "longsheet.errors")


if __name__ == "__main__":
    unittest.main()
