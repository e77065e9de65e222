"""The interface: each name stands in its file, with its arguments, methods and fields."""

import ast
import unittest
from pathlib import Path

from fewestlines.boxes import Boxes
from fewestlines.coded import Coded
from fewestlines.cursor import Cursor
from fewestlines.cuttings import Cutting
from fewestlines.flat import FlatCutting
from fewestlines.hulls import Fitter
from fewestlines.index import Index
from fewestlines.journal import Durable
from fewestlines.plain import PlainStore
from fewestlines.rooms import Plan
from fewestlines.spans import SpanCutting
from fewestlines.store import Store
from fewestlines.stream import Stream
from fewestlines.sums import Outline
from fewestlines.view import View

PACKAGE = Path(__file__).resolve().parent.parent / "fewestlines"

FUNCTIONS = {
    "lines": {"reduced": "line", "floor_at": "line place", "ceiling_at": "line place",
              "is_near": "line point error", "line_fits": "line points error"},
    "fits": {"three_fit": "one two three error", "plain_fits": "points error",
             "slope_range": "points error", "fits": "points error",
             "fitting_line": "points error", "reason": "points error"},
    "cuttings": {"cut": "points error", "judge": "points error cutting",
                 "least_count": "points error"},
    "least": {"least_error": "points pieces", "staircase": "points"},
    "coded": {"width": "error", "error_of_width": "width", "room": "values error header",
              "best_error": "values header"},
    "written": {"write_cutting": "cutting", "read_cutting": "text", "audit": "points error text"},
    "flat": {"flat_cut": "values error", "judge_flat": "values error cutting"},
    "spans": {"three_meet": "one two three", "meets": "line span", "span_cut": "spans",
              "judge_spans": "spans cutting"},
    "rooms": {"best_plan": "values header", "judge_plan": "values header plan",
              "plan_room": "values header plan"},
    "sums": {"floor_sum": "count p q d"},
    "combine": {"added": "one other", "scaled": "pieces factor", "part_of": "pieces a b",
                "repeated": "pieces length times"},
    "boxes": {"code_of": "x y bits", "cell_of": "code bits", "ranges": "box bits"},
    "joins": {"common": "one other", "without": "one other", "together": "one other",
              "nearest": "index x"},
    "saved": {"write_store": "store", "read_store": "text"},
    "journal": {"check_number": "text", "recovered": "text"},
    "scripts": {"run_script": "text"},
    "plantext": {"write_plan": "plan", "read_plan": "text", "audit_plan": "values header text"},
    "plain": {"plain_rank": "stored x", "plain_flat_count": "values error",
              "plain_span_count": "spans", "plain_room": "values header",
              "plain_floor_sum": "count p q d", "plain_inside": "points box"},
}

CLASSES = {
    "errors": {"LinesError": {}, "InvalidPaper": {"__init__": "line"}},
    "hulls": {"Fitter": {"__init__": "error", "add": "point", "line": ""}},
    "cuttings": {"Cutting": {"__init__": "pieces reasons"}},
    "index": {"Index": {"__init__": "stored error upper", "level_keys": "", "pieces": "",
                        "look_up": "x", "rank": "x", "has": "x", "count": "a b",
                        "at_most": "x", "at_least": "x", "key_at": "index"}},
    "store": {"Store": {"__init__": "capacity error", "put": "key value", "remove": "key",
                        "get": "key", "contents": "", "between": "a b", "run_sizes": "",
                        "buffered": ""}},
    "coded": {"Coded": {"__init__": "values error", "value_at": "index", "decoded": ""}},
    "flat": {"FlatCutting": {"__init__": "pieces reasons"}},
    "spans": {"SpanCutting": {"__init__": "pieces reasons"}},
    "rooms": {"Plan": {"__init__": "pieces reaches prices"}},
    "sums": {"Outline": {"__init__": "values error", "value_bounds": "index", "sum_bounds": "a b",
                         "least_bounds": "a b", "greatest_bounds": "a b",
                         "surely_above": "a b limit", "perhaps_above": "a b limit"}},
    "stream": {"Stream": {"__init__": "error", "push": "value", "pieces": "", "forecast": "steps"}},
    "boxes": {"Boxes": {"__init__": "points bits error", "inside": "box", "count": "box"}},
    "view": {"View": {"__init__": "store", "get": "key", "contents": "", "changes": "later"}},
    "cursor": {"Cursor": {"__init__": "store", "after": "key", "before": "key", "walk": "key count",
                          "walk_back": "key count"}},
    "journal": {"Durable": {"__init__": "capacity error", "put": "key value", "remove": "key",
                            "sync": "", "checkpoint": "", "crash": "kept"}},
    "plain": {"PlainStore": {"__init__": "", "put": "key value", "remove": "key", "get": "key",
                             "contents": ""}},
}


def tree_of(module):
    """The syntax tree of a file of the package."""
    return ast.parse((PACKAGE / f"{module}.py").read_text())


def arguments(function):
    """The names of the arguments, without that of a method's own object."""
    return [name.arg for name in function.args.args if name.arg != "self"]


class Interface(unittest.TestCase):
    def test_functions_are_defined_in_their_files(self):
        for module, functions in FUNCTIONS.items():
            defined = {node.name: arguments(node) for node in tree_of(module).body
                       if isinstance(node, ast.FunctionDef)}
            for name, wanted in functions.items():
                self.assertEqual(defined.get(name), wanted.split(), f"{module}.{name}")

    def test_methods_are_defined_in_their_classes(self):
        for module, classes in CLASSES.items():
            defined = {node.name: node for node in tree_of(module).body
                       if isinstance(node, ast.ClassDef)}
            for name, methods in classes.items():
                found = {node.name: arguments(node) for node in defined[name].body
                         if isinstance(node, ast.FunctionDef)}
                for method, wanted in methods.items():
                    self.assertEqual(found.get(method), wanted.split(), f"{name}.{method}")

    def test_fields_are_set_when_an_object_is_made(self):
        self.assertEqual(Fitter(error=2).count, 0)
        cutting = Cutting(pieces=[(0, (0, 0, 1))], reasons=[])
        self.assertEqual((cutting.pieces, cutting.reasons), ([(0, (0, 0, 1))], []))
        self.assertEqual(Index(stored=[3], error=0, upper=1).stored, [3])
        store = Store(capacity=4, error=1)
        self.assertEqual((store.capacity, store.error, store.moves, store.edits), (4, 1, 0, 0))
        coded = Coded(values=[4, 4], error=0)
        self.assertEqual((coded.pieces, coded.corrections), ([(0, (0, 4, 1))], [0, 0]))
        flat = FlatCutting(pieces=[(0, 5)], reasons=[])
        self.assertEqual((flat.pieces, flat.reasons), ([(0, 5)], []))
        spans = SpanCutting(pieces=[(0, (0, 0, 1))], reasons=[])
        self.assertEqual((spans.pieces, spans.reasons), ([(0, (0, 0, 1))], []))
        plan = Plan(pieces=[(0, 0, (0, 5, 1))], reaches=[[(1, None)]], prices=[0, 4])
        self.assertEqual((plan.pieces, plan.reaches), ([(0, 0, (0, 5, 1))], [[(1, None)]]))
        self.assertEqual(plan.prices, [0, 4])
        outline = Outline(values=[4, 4], error=0)
        self.assertEqual((outline.error, outline.length, outline.pieces), (0, 2, [(0, (0, 4, 1))]))
        stream = Stream(error=5)
        self.assertEqual((stream.error, stream.length), (5, 0))
        self.assertEqual(View(store=store).edits, 0)
        durable = Durable(capacity=4, error=1)
        self.assertIsInstance(durable.store, Store)
        self.assertEqual((durable.base, durable.journal, durable.synced), ("store 4 1 0 0\nbuffer 0", "", 0))

    def test_classes_without_fields_take_their_arguments(self):
        self.assertEqual(Boxes(points=[(0, 0)], bits=0, error=2).count(box=(0, 0, 0, 0)), 1)
        cursor = Cursor(store=Store(2, 0))
        self.assertEqual((cursor.after(key=3), cursor.walk(key=3, count=1)), (None, []))
        self.assertIsNone(PlainStore().get(key=1))


if __name__ == "__main__":
    unittest.main()
