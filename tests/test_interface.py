import ast
import importlib
import inspect
import unittest
from pathlib import Path

PACKAGE = Path(__file__).resolve().parent.parent / "gateslack"

SIGNATURES = {
    "words": {
        "is_whole": "(thing, *, least=0, most=999)",
        "is_name": "(thing)",
        "number_in": "(word, *, least=0, most=999)",
    },
    "netlist": {
        "is_netlist": "(thing)",
        "need_netlist": "(thing)",
        "starts_of": "(netlist)",
        "ends_of": "(netlist)",
        "order_of": "(netlist)",
        "corners_of": "(netlist)",
        "pins_of": "(netlist, name)",
        "fed_by": "(netlist, name)",
        "cone_of": "(netlist, name)",
        "paths_of": "(netlist, *, start=None, end=None)",
        "is_path": "(netlist, thing)",
        "many_paths": "(netlist)",
    },
    "showing": {
        "netlist_text": "(netlist, *, sign='\\n')",
        "clock_text": "(clock)",
        "edit_text": "(edit)",
        "edits_text": "(edits, *, sign='\\n')",
        "path_text": "(path)",
        "filling_text": "(filling)",
        "cases_text": "(cases)",
        "ring_text": "(ring)",
        "fraction_text": "(fraction)",
    },
    "reading": {
        "netlist_in": "(text, *, first=1)",
        "clock_in": "(text, *, first=1)",
        "edit_in": "(text, *, first=1)",
        "edits_in": "(text, *, first=1)",
        "path_in": "(text, *, first=1)",
        "filling_in": "(text, *, first=1)",
        "cases_in": "(text, *, first=1)",
        "ring_in": "(text, *, first=1)",
    },
    "values": {
        "need_filling": "(netlist, thing, *, partial=False)",
        "decided_of": "(netlist, filling)",
        "fillings": "(netlist)",
        "table_of": "(netlist, name)",
        "hangs_on": "(netlist, name)",
        "unlike_by": "(netlist, one, other)",
        "filling_for": "(netlist, wants, *, filling=None)",
    },
    "truth": {
        "side_pins": "(netlist, path)",
        "does_open": "(netlist, path, filling)",
        "openings": "(netlist, path)",
        "opening": "(netlist, path)",
        "is_true": "(netlist, path)",
        "true_paths": "(netlist, *, start=None, end=None)",
        "cases_of": "(netlist, path)",
        "are_cases": "(netlist, path, thing)",
        "need_cases": "(netlist, path, thing)",
    },
    "slack": {
        "is_clock": "(netlist, thing)",
        "is_check": "(netlist, thing)",
        "need_clock": "(netlist, clock)",
        "checks_of": "(netlist)",
        "delays_of": "(netlist, path, *, corner=0)",
        "slack_along": "(netlist, clock, path, *, side='late', corner=0)",
        "rows_of": "(netlist, clock, check, *, up_to=20)",
        "worst": "(netlist, clock, check)",
        "slacks_of": "(netlist, clock, *, corner=None)",
        "least_of": "(netlist, clock, *, side=None, corner=None)",
        "failing": "(netlist, clock, *, under=0)",
        "period_needed": "(netlist, skews)",
    },
    "skew": {
        "rules_of": "(netlist)",
        "number_of": "(netlist, rule, *, period)",
        "are_skews": "(netlist, thing)",
        "is_ring": "(netlist, thing)",
        "mean_of": "(netlist, ring, *, period)",
        "slack_by": "(netlist, skews, *, period)",
        "best_slack": "(netlist, *, period)",
        "least_period": "(netlist)",
        "best_paper": "(netlist, *, period)",
        "period_paper": "(netlist)",
        "check_best": "(netlist, paper, *, period)",
        "check_period": "(netlist, paper)",
    },
    "papers": {
        "slack_paper": "(netlist, clock, check)",
        "check_slack": "(netlist, clock, check, paper)",
        "report_paper": "(netlist, clock)",
        "check_report": "(netlist, clock, report)",
    },
    "bench": {
        "Bench": "(netlist, clock)",
    },
    "likeness": {
        "renamed": "(netlist, names)",
        "regated": "(netlist, order)",
        "repinned": "(netlist, gate)",
        "halved": "(netlist, gate, name)",
        "turned": "(netlist, gate, name)",
        "unlike_end": "(netlist, other)",
    },
    "desk": {
        "Desk": "(netlist, clock)",
        "all_said": "(lines, *, netlist, clock)",
    },
}

METHODS = {
    ("bench", "Bench"): {
        "edit": "(self, edit)",
        "attempt": "(self, edits, *, whole=True)",
        "back": "(self)",
        "edits": "(self)",
        "log": "(self)",
        "netlist": "(self)",
        "clock": "(self)",
        "arrivals": "(self, name, *, corner=0)",
        "worst": "(self, check)",
        "slacks": "(self)",
        "failing": "(self, *, under=0)",
        "changed": "(self)",
        "twin": "(self)",
        "__len__": "(self)",
        "__eq__": "(self, other)",
    },
    ("desk", "Desk"): {
        "said": "(self, line)",
        "bench": "(self)",
        "__len__": "(self)",
    },
}

VALUES = {
    "words": {"MOST": 999},
    "netlist": {"KINDS": ("not", "and", "nand", "or", "nor", "xor"), "MOST_PATHS": 60},
    "showing": {"LINE": "\n"},
    "reading": {"FIRST": 1},
    "slack": {"SIDES": ("early", "late"), "MOST_ROWS": 20},
    "skew": {"MOST_PERIOD": 99999},
}


class InterfaceTest(unittest.TestCase):
    def test_functions_are_defined_where_they_are_listed(self):
        for file, functions in SIGNATURES.items():
            module = importlib.import_module(f"gateslack.{file}")
            for name, signature in functions.items():
                function = getattr(module, name)
                self.assertEqual(function.__module__, module.__name__)
                self.assertEqual(str(inspect.signature(function)), signature, name)

    def test_methods_stand_in_their_classes(self):
        for (file, name), methods in METHODS.items():
            own = vars(getattr(importlib.import_module(f"gateslack.{file}"), name))
            for method, signature in methods.items():
                self.assertEqual(str(inspect.signature(own[method])), signature, method)

    def test_values_stand_where_they_are_listed(self):
        for file, values in VALUES.items():
            module = importlib.import_module(f"gateslack.{file}")
            for name, value in values.items():
                self.assertEqual((type(getattr(module, name)), getattr(module, name)), (type(value), value), name)


class FileTest(unittest.TestCase):
    def test_the_folder_holds_plain_files_alone(self):
        for path in PACKAGE.iterdir():
            if path.name != "__pycache__":
                self.assertEqual(path.suffix, ".py", path)

    def test_sizes_and_signs(self):
        for path in PACKAGE.glob("*.py"):
            lines = path.read_text(encoding="utf-8").split("\n")
            self.assertLessEqual(len(lines), 399, path)
            for line in lines:
                self.assertLessEqual(len(line), 120, path)
                self.assertTrue(all(" " <= sign <= "~" for sign in line), path)

    def test_functions_have_at_most_forty_lines(self):
        for path in PACKAGE.glob("*.py"):
            for node in ast.walk(ast.parse(path.read_text(encoding="utf-8"))):
                if isinstance(node, ast.FunctionDef):
                    self.assertLessEqual(node.end_lineno - node.lineno + 1, 40, node.name)


if __name__ == "__main__":
    unittest.main()
