"""The names that the document lists, and the parts of the form of the code that are easily measured."""

import ast
import importlib
import inspect
import unittest
from pathlib import Path

TOP = Path(__file__).resolve().parent.parent
PACKAGE = TOP / "weeksums"
INTERFACE = {
    "errors": {
        "Impossible": ["word", "days"], "Disagree": ["word", "days"], "TooShort": ["days"], "InvalidText": ["place"],
    },
    "ties": {
        "sums_of": ["numbers", "length"], "days_of": ["sums", "length"], "tied_days": ["sums", "length", "day"],
        "tie_between": ["sums", "length", "first", "second"], "forced_total": ["sums", "length", "days"],
    },
    "ways": {
        "conflict_of": ["sums", "length", "most"], "shows_conflict": ["sums", "length", "most", "thing"],
        "is_way": ["sums", "length", "most", "thing"], "least_way": ["sums", "length", "most"],
        "greatest_way": ["sums", "length", "most"],
    },
    "ranges": {
        "day_range": ["sums", "length", "most", "day"], "all_ranges": ["sums", "length", "most"],
        "certain_days": ["sums", "length", "most"], "row_range": ["sums", "length", "most", "first", "beyond"],
        "total_range": ["sums", "length", "most", "days"],
        "difference_range": ["sums", "length", "most", "first", "second"], "next_range": ["sums", "length", "most"],
    },
    "levels": {
        "least_peak": ["sums", "length", "most"], "peak_paper": ["sums", "length", "most"],
        "greatest_floor": ["sums", "length", "most"], "least_spread": ["sums", "length", "most"],
        "way_within": ["sums", "length", "most", "low", "high"],
    },
    "counts": {
        "count_ways": ["sums", "length", "most"], "nth_way": ["sums", "length", "most", "index"],
        "way_index": ["sums", "length", "most", "way"], "count_with": ["sums", "length", "most", "day", "number"],
    },
    "pairs": {
        "joined_days": ["count", "length", "other_length"],
        "have_common": ["sums", "length", "other", "other_length"],
        "joint_sums": ["sums", "length", "other", "other_length"],
        "shows_disagreement": ["sums", "length", "other", "other_length", "thing"],
    },
    "rings": {
        "ring_sums": ["numbers", "length"], "ring_line": ["sums", "length"], "shows_open": ["sums", "length", "thing"],
        "ring_ways": ["sums", "length", "most"], "ring_least": ["sums", "length", "most"],
    },
    "slips": {
        "fit_range": ["sums", "length", "most", "index"], "corrections": ["sums", "length", "most"],
        "least_correction": ["sums", "length", "most"],
    },
    "rough": {
        "rough_conflict": ["bounds", "length", "most"], "shows_rough": ["bounds", "length", "most", "thing"],
        "is_rough_way": ["bounds", "length", "most", "thing"], "rough_way": ["bounds", "length", "most"],
        "rough_range": ["bounds", "length", "most", "first", "beyond"],
    },
    "live": {"Watch": ["length", "most"]},
    "texts": {
        "write_sums": ["sums"], "read_sums": ["text"], "write_way": ["way"], "read_way": ["text"],
        "write_bounds": ["bounds"], "read_bounds": ["text"],
    },
    "session": {"session": ["rows"]},
}
METHODS = {
    "add": ["number"], "undo": [], "mark": [], "undo_to": ["index"], "twin": [], "days_so_far": [], "range_of": ["day"],
    "next_range": [], "ways": [], "__len__": [],
}


def trees():
    for path in sorted(PACKAGE.rglob("*.py")):
        yield path, ast.parse(path.read_text("ascii"))


class Interface(unittest.TestCase):
    def test_names_and_arguments(self):
        for file, told in INTERFACE.items():
            module = importlib.import_module(f"weeksums.{file}")
            for name, arguments in told.items():
                thing = getattr(module, name)
                self.assertEqual(thing.__module__, f"weeksums.{file}")
                self.assertEqual(list(inspect.signature(thing).parameters), arguments, name)

    def test_methods_of_the_watch(self):
        watch = importlib.import_module("weeksums.live").Watch
        for name, arguments in METHODS.items():
            self.assertEqual(list(inspect.signature(vars(watch)[name]).parameters), ["self"] + arguments, name)


class Form(unittest.TestCase):
    def test_the_package_holds_python_files_alone(self):
        for path in PACKAGE.rglob("*"):
            if "__pycache__" not in path.parts and not path.is_dir():
                self.assertEqual(path.suffix, ".py", path)

    def test_sizes_and_characters(self):
        for path, tree in trees():
            rows = path.read_text("ascii").split("\n")
            self.assertLessEqual(len(rows), 399, path)
            for row in rows:
                self.assertLessEqual(len(row), 120, (path, row))
                self.assertTrue(row.isprintable(), (path, row))
            for node in ast.walk(tree):
                if isinstance(node, ast.FunctionDef):
                    self.assertLessEqual(node.end_lineno - node.lineno + 1, 40, (path, node.name))

    def test_imports_are_of_the_package_but_for_comb_and_gcd(self):
        for path, tree in trees():
            for node in ast.walk(tree):
                self.assertNotIsInstance(node, ast.Import, path)
                if isinstance(node, ast.ImportFrom):
                    if node.module == "math":
                        self.assertIn([name.name for name in node.names], (["comb"], ["gcd"]), path)
                    else:
                        self.assertTrue(node.module.startswith("weeksums."), (path, node.module))
                    self.assertEqual([name.asname for name in node.names], [None] * len(node.names))

    def test_no_string_holds_a_percent_sign(self):
        for path, tree in trees():
            for node in ast.walk(tree):
                if isinstance(node, ast.Constant) and isinstance(node.value, str):
                    self.assertNotIn(chr(37), node.value, path)


if __name__ == "__main__":
    unittest.main()
