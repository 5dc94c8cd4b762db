"""The names, the parameters and the kinds of what the interface lists, and where each is defined."""

import ast
import importlib
import inspect
import pathlib
import unittest

PACKAGE = pathlib.Path(__file__).resolve().parent.parent / "greatestback"

# The parameters of each function as the interface writes them; a star is followed by names only.
FUNCTIONS = {
    "lots": {
        "is_lot": "(value, below=6)", "lot_of": "(numbers, *, below=6)", "join_lots": "(first, second)",
        "meet_lots": "(first, second)", "lot_without": "(first, second)", "holds": "(first, second)",
        "sorted_lots": "(lots)", "all_lots": "(below)",
    },
    "tabletext": {
        "format_table": "(table)", "parse_table": "(text)", "format_word": "(table)", "parse_word": "(word)",
        "format_lot": "(lot)", "parse_lot": "(text)",
    },
    "edits": {
        "is_edit": "(value)", "fits": "(table, edit)", "apply_edit": "(table, edit)", "inverse_edit": "(table, edit)",
        "apply_edits": "(table, edits)", "difference": "(first, second)", "place_rows": "(table, placing)",
        "place_columns": "(table, placing)",
    },
    "behind": {
        "then": "(first, second)", "middles": "(first, second, row, column)", "then_all": "(tables)",
        "power": "(table, exponent)", "through": "(lot, table)", "turned": "(table)", "opposite": "(table)",
        "is_inside": "(first, second)", "first_outside": "(first, second)",
    },
    "joins": {
        "joined_rows": "(table)", "joined_columns": "(table)", "is_joined": "(table, value)",
        "rows_within": "(table, lot)", "inner": "(table, lot)", "greatest_without": "(table, column)",
        "crossing": "(table, lot)", "crossing_back": "(table, lot)",
    },
    "unmade": {
        "unmade_rows": "(table)", "unmade_columns": "(table)", "is_unmade": "(table, value)", "makers": "(table, lot)",
        "first_rows": "(table)", "first_columns": "(table)", "unmet_rows": "(table)", "core": "(table)",
        "unmade_factors": "(table)",
    },
    "primes": {
        "own_columns": "(table, lot)", "is_prime": "(table, value)", "prime_rows": "(table)",
        "prime_paper": "(table, lot)", "is_prime_paper": "(table, paper)", "bad_rows": "(table)",
        "bad_paper": "(table, lot)", "bad_row": "(table)", "is_bad_paper": "(table, paper)",
    },
    "overand": {
        "spread_fault": "(table)", "is_spread_fault": "(table, paper)", "spreads": "(table)", "turned_fault": "(table)",
        "is_turned_fault": "(table, paper)",
    },
    "greatest": {
        "back_and_forth": "(table, other)", "is_under": "(table, other)", "greatest_under": "(table)",
        "is_greatest_under": "(table, other)", "barring_cell": "(table, row, column)",
    },
    "wayback": {
        "leads_back": "(table, other)", "way_back": "(table)", "way_paper": "(table)", "is_way_paper": "(table, paper)",
        "small_way": "(table)", "mutual_way": "(table)", "are_mutual": "(first, second)", "all_ways": "(table)",
    },
    "solve": {
        "greatest_right": "(first, target)", "greatest_left": "(second, target)",
        "greatest_both": "(first, second, target)", "solve_right": "(first, target)", "solve_left": "(second, target)",
        "solve_both": "(first, second, target)", "is_bar_right": "(first, target, paper)",
        "is_bar_left": "(second, target, paper)", "is_bar_both": "(first, second, target, paper)",
        "solve_by_way": "(first, target)",
    },
    "kin": {
        "is_match": "(first, second, value)", "first_match": "(first, second)",
        "carry": "(first, second, placing, lot)", "paper_of_match": "(first, second, placing)",
        "kin_paper": "(first, second)", "is_kin_paper": "(first, second, paper)", "are_kin": "(first, second)",
        "match_of_paper": "(first, second, paper)", "self_paper": "(table)", "back_paper": "(first, second, paper)",
        "across_paper": "(first, second, paper)", "chain_papers": "(first, middle, last, paper, next_paper)",
        "kin_difference": "(first, second)",
    },
    "ordertable": {
        "is_order": "(table)", "order_fault": "(table)", "order_of_pairs": "(many, pairs)", "direct_pairs": "(order)",
        "down_lots": "(order)", "up_lots": "(order)", "is_down_lot": "(order, value)", "down_of": "(order, lot)",
        "beside": "(order, other)", "upon": "(order, other)",
    },
    "kinorder": {
        "kin_order": "(table)", "order_things": "(table)", "order_paper": "(table)", "down_of_row": "(table, lot)",
        "row_of_down": "(table, lot)", "is_kin_order": "(table, order, paper)",
    },
    "likenesses": {
        "is_placing": "(value, many)", "placing_then": "(first, second)", "placing_back": "(placing)",
        "is_likeness": "(order, other, value)", "first_likeness": "(order, other)", "likenesses": "(order)",
        "place_order": "(order, placing)",
    },
    "classsize": {
        "same_joins": "(first, second)", "class_tables": "(table)", "class_size": "(table)",
        "likeness_of": "(table, other)", "class_by_trying": "(table)",
    },
    "rounds": {
        "is_own_square": "(table)", "squares_of_way": "(table, other)", "rounds": "(table)", "powers": "(table)",
        "settled": "(table)",
    },
    "rectangular": {
        "thrice": "(table)", "rectangular_fault": "(table)", "is_rectangular": "(table)",
        "is_rectangular_fault": "(table, paper)", "rectangles": "(table)",
    },
    "blocks": {
        "is_full_block": "(table, value)", "block_table": "(blocks, height, width)", "is_cover": "(table, value)",
        "greatest_blocks": "(table)", "prime_blocks": "(table)", "fewest_blocks": "(table)",
        "block_factors": "(table, blocks)", "factor_blocks": "(first, second)",
    },
    "ranks": {
        "row_rank": "(table)", "column_rank": "(table)", "block_rank": "(table)", "apart_rank": "(table)",
        "are_apart": "(table, value)", "apart_cells": "(table)", "rank_paper": "(table)",
        "is_rank_paper": "(table, paper)",
    },
    "verdict": {
        "verdict_of": "(table)", "is_verdict": "(table, paper)", "verdict_lines": "(verdict)", "read_verdict": "(lines)",
    },
    "script": {"parse_command": "(line)", "run_line": "(engine, line)", "run_script": "(text)"},
}

CLASSES = {
    ("errors", "BadText"): {"__init__": "(self, line)"},
    ("errors", "BadName"): {"__init__": "(self, name)"},
    ("errors", "BadEdit"): {"__init__": "(self, edit)"},
    ("errors", "BadTable"): {"__init__": "(self, row)"},
    ("errors", "BadPaper"): {"__init__": "(self, paper)"},
    ("errors", "BadPlace"): {"__init__": "(self, place)"},
    ("errors", "BadLot"): {"__init__": "(self, lot)"},
    ("errors", "NoName"): {"__init__": "(self, name)"},
    ("errors", "NoFit"): {"__init__": "(self, edit)"},
    ("errors", "UnlikeSizes"): {"__init__": "(self, first, second)"},
    ("errors", "NotSquare"): {"__init__": "(self, sides)"},
    ("errors", "NotOrder"): {"__init__": "(self, fault)"},
    ("errors", "NotJoined"): {"__init__": "(self, lot)"},
    ("errors", "NotRectangular"): {"__init__": "(self, fault)"},
    ("errors", "TooMany"): {"__init__": "(self, many, limit)"},
    ("errors", "NoWayBack"): {"__init__": "(self, paper)"},
    ("tables", "Table"): {
        "__init__": "(self, rows, *, width=None)", "filled": "(height, width, *, yes=False)", "same": "(side)",
        "of_lots": "(lots, width)", "__mul__": "(self, other)", "__or__": "(self, other)", "__and__": "(self, other)",
        "__invert__": "(self)", "__str__": "(self)", "__iter__": "(self)", "__eq__": "(self, other)",
        "__ne__": "(self, other)", "__getitem__": "(self, at)",
    },
    ("lattice", "Lattice"): {
        "__init__": "(self, table)", "__iter__": "(self)", "__contains__": "(self, x)", "place_of": "(self, lot)",
        "either": "(self, first, second)", "both": "(self, first, second)", "either_all": "(self, lots)",
        "both_all": "(self, lots)", "under": "(self, lot)", "over": "(self, lot)", "next_over": "(self, lot)",
        "longest": "(self)",
    },
    ("engine", "Engine"): {
        "__init__": "(self)", "__contains__": "(self, x)", "store": "(self, name, table)", "fetch": "(self, name)",
        "drop": "(self, name)", "change": "(self, name, edit)", "compose": "(self, name, first, second)",
        "undo": "(self)", "redo": "(self)", "way_of": "(self, name)", "order_of": "(self, name)",
        "ranks_of": "(self, name)", "verdict_for": "(self, name)", "kin_of": "(self, first, second)",
        "solve_of": "(self, first, second)",
    },
}

PROPERTIES = {
    ("tables", "Table"): ["height", "width", "many_yes", "size", "rows", "columns", "row_lots", "column_lots"],
    ("lattice", "Lattice"): ["table", "how_many", "bottom", "top"],
    ("engine", "Engine"): ["names", "done", "undone"],
}

NUMBERS = {
    ("lots", "SIDE"): 6, ("overand", "SPREAD_LIMIT"): 16, ("wayback", "TRY_CELLS"): 9, ("kin", "MATCH_LIMIT"): 5,
    ("likenesses", "LIKENESS_LIMIT"): 5, ("rounds", "POWER_LIMIT"): 4, ("blocks", "RANK_CELLS"): 16,
    ("engine", "NAME_LIMIT"): 8, ("script", "SCRIPT_LIMIT"): 60,
}

STATIC = ["filled", "same", "of_lots"]


def module(name):
    return importlib.import_module(f"greatestback.{name}")


def defined_in(name):
    """The names that the file itself defines by def and class at its top level."""
    tree = ast.parse((PACKAGE / f"{name}.py").read_text())
    return [node.name for node in tree.body if isinstance(node, (ast.FunctionDef, ast.ClassDef))]


class Interface(unittest.TestCase):

    def test_functions(self):
        for name, functions in FUNCTIONS.items():
            for function, parameters in functions.items():
                self.assertEqual(str(inspect.signature(getattr(module(name), function))), parameters, function)
                self.assertIn(function, defined_in(name))

    def test_classes_and_their_methods(self):
        for (name, told), methods in CLASSES.items():
            self.assertIn(told, defined_in(name))
            held = vars(getattr(module(name), told))
            for method, parameters in methods.items():
                function = held[method].__func__ if method in STATIC else held[method]
                self.assertEqual(str(inspect.signature(function)), parameters, f"{told}.{method}")
                self.assertIs(isinstance(held[method], staticmethod), method in STATIC)

    def test_properties(self):
        for (name, told), names in PROPERTIES.items():
            held = vars(getattr(module(name), told))
            for one in names:
                self.assertIsInstance(held[one], property)
                self.assertIsNone(held[one].fset)

    def test_the_base_error_is_defined_in_its_file(self):
        self.assertIn("GreatestbackError", defined_in("errors"))

    def test_numbers(self):
        for (name, told), number in NUMBERS.items():
            self.assertIs(type(getattr(module(name), told)), int)
            self.assertEqual(getattr(module(name), told), number)
