"""The names, arguments and files of the interface."""

import ast
import importlib
import inspect
import unittest

FUNCTIONS = {
    "programs": {
        "renamed": ["program", "names"], "backward": ["program"], "turned": ["program", "matrix"],
        "stretched": ["program", "times"], "beside": ["one", "other"], "without": ["program", "lot"],
        "alone": ["program", "lot"], "also": ["program", "reading"],
    },
    "logs": {
        "is_walk": ["program", "thing"], "is_log": ["program", "thing"], "is_turn": ["program", "world", "thing"],
        "length": ["program", "log"], "visits": ["program", "log", "table"], "added": ["program", "log"],
        "reach": ["program", "log"], "written_out": ["program", "log"], "ends_of": ["program", "log"],
    },
    "texts": {"program_text": ["program"], "log_text": ["program", "log"]},
    "reading": {"read_program": ["text"], "read_log": ["program", "text"]},
    "tasks": {"answer": ["task"], "is_answer": ["task", "thing"], "kind": ["task"], "best_worth": ["task"]},
    "flows": {
        "is_flow": ["program", "lot", "world", "thing"], "is_row": ["program", "lot", "world", "thing"],
        "kept": ["program", "lot", "world"], "flow": ["program", "lot", "world"], "row": ["program", "lot", "world"],
    },
    "levels": {
        "parts": ["program", "lot"], "tables_of": ["program", "lot"], "levels": ["program", "world"],
        "is_levels": ["program", "world", "thing"], "works": ["program", "world"], "depths": ["program", "world"],
    },
    "turns": {"turn": ["program", "world"], "shortest_turn": ["program", "most"]},
    "timetables": {
        "timetable": ["program", "world"], "is_timetable": ["program", "world", "thing"],
        "time_at": ["program", "timetable", "table", "point"], "lag": ["program", "timetable", "number"],
        "spread": ["program", "timetable", "table", "box"],
    },
    "chains": {
        "chain_width": ["program", "table"], "chain": ["program", "table", "n"], "is_chain": ["program", "table", "n", "thing"],
    },
    "boxes": {
        "fits": ["program", "box", "log"], "works_in": ["program", "box"], "is_ring_in": ["program", "box", "thing"],
        "is_chain_in": ["program", "box", "thing"], "ring_in": ["program", "box"], "longest": ["program", "box", "table"],
        "turns_with": ["program", "box", "workers"], "longest_chain": ["program", "box", "table"],
        "waits_for": ["program", "box", "table", "point"], "waves": ["program", "box"], "least_cube": ["program", "most"],
    },
    "working": {
        "worked": ["program", "meaning", "modulus", "border", "box"], "is_order": ["program", "box", "thing"],
        "ready": ["program", "box", "done"], "led": ["program", "box", "stranger"],
    },
    "going": {"breakers": ["program", "world"], "shallower": ["program", "most"]},
}
CLASSES = {
    "programs": {"Program": {"__init__": ["self", "sides", "tables", "readings"], "__eq__": ["self", "other"]}},
    "tasks": {"Task": {"__init__": ["self", "rows", "amounts", "worths"], "__eq__": ["self", "other"]}},
    "bench": {
        "Bench": {
            "__init__": ["self", "sides", "tables"], "add": ["self", "reading"], "drop": ["self", "reading"], "called": ["self", "names"],
            "program": ["self"], "works": ["self", "world"], "depths": ["self", "world"], "turn": ["self", "world"],
            "timetable": ["self", "world"], "back": ["self"], "deeds": ["self"], "copy": ["self"], "trying": ["self", "action"],
        },
    },
    "sheets": {
        "Sheet": {
            "__init__": ["self", "program", "meaning", "modulus", "box"], "edge": ["self", "table", "point", "value"],
            "fix": ["self", "table", "point", "value"], "loose": ["self", "table", "point"], "way": ["self", "table", "thing"],
            "add": ["self", "reading"], "drop": ["self", "reading"], "undo": ["self"], "value": ["self", "table", "point"], "made": ["self"],
            "due": ["self", "table", "point"], "all_values": ["self"], "edges": ["self"], "fixed": ["self"], "program": ["self"],
            "meaning": ["self"], "plan": ["self"], "hanging": ["self", "table", "point"], "roots": ["self", "table", "point"],
            "is_plan": ["self", "thing"], "copy": ["self"],
        },
    },
    "desk": {"Desk": {"__init__": ["self"], "tell": ["self", "line"], "undoable": ["self"]}},
}


def defined_in(module):
    """All that a module's file itself defines, by name."""
    tree = ast.parse(inspect.getsource(module))
    return {node.name: node for node in tree.body if isinstance(node, (ast.FunctionDef, ast.ClassDef))}


def arguments_of(node):
    return [argument.arg for argument in node.args.args]


class Interface(unittest.TestCase):
    def test_functions_stand_in_their_files(self):
        for name, functions in FUNCTIONS.items():
            module = importlib.import_module(f"turnsneeded.{name}")
            there = defined_in(module)
            for word, arguments in functions.items():
                self.assertIsInstance(there[word], ast.FunctionDef)
                self.assertEqual(arguments_of(there[word]), arguments)
                self.assertTrue(callable(getattr(module, word)))

    def test_classes_stand_in_their_files_with_their_own_methods(self):
        for name, classes in CLASSES.items():
            there = defined_in(importlib.import_module(f"turnsneeded.{name}"))
            for word, methods in classes.items():
                own = {node.name: node for node in there[word].body if isinstance(node, ast.FunctionDef)}
                for method, arguments in methods.items():
                    self.assertEqual(arguments_of(own[method]), arguments)


if __name__ == "__main__":
    unittest.main()
