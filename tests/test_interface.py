"""The interface: each function stands in its file, with the arguments of the document."""

import importlib
import inspect
import unittest

INTERFACE = {
    "fences": {
        "is_fence": ["value"],
        "are_same": ["fence", "other"],
        "fence_of": ["bottom", "points"],
        "lowest_fence": ["fence"],
        "closed_fence": ["fence"],
        "shut_fence": ["fence"],
        "turned_fence": ["fence"],
        "fence_kind": ["fence"],
        "fence_area": ["fence"],
    },
    "counts": {
        "stake_count": ["fence", "size"],
        "side_count": ["fence", "side", "size"],
        "row_count": ["fence", "size", "row"],
        "below_count": ["fence", "size", "row"],
        "holds_stake": ["fence", "size", "point"],
    },
    "places": {
        "stake_rows": ["fence", "size"],
        "row_stakes": ["fence", "size", "row"],
        "nth_stake": ["fence", "size", "index"],
        "stake_index": ["fence", "size", "point"],
    },
    "rules": {
        "counting_rule": ["fence"],
        "rule_through": ["counts"],
        "rule_count": ["rule", "size"],
        "rule_period": ["fence"],
        "part_periods": ["fence"],
        "side_sizes": ["fence"],
        "series_row": ["fence"],
    },
    "sizes": {
        "sizes_with": ["fence", "number"],
        "first_size": ["fence", "number"],
        "total_count": ["fence", "first", "last"],
    },
    "gaps": {
        "size_step": ["fence"],
        "last_empty": ["fence"],
        "has_stakes": ["fence", "size"],
        "stake_sizes": ["fence"],
        "empty_sizes": ["fence"],
    },
    "compare": {
        "are_alike": ["fence", "other"],
        "parting_size": ["fence", "other"],
        "alike_sizes": ["fence", "other"],
        "first_fewer": ["fence", "other"],
        "fewer_sizes": ["fence", "other"],
    },
    "moves": {
        "is_move": ["value"],
        "moved_fence": ["fence", "move"],
        "joined_move": ["move", "other"],
        "inverse_move": ["move"],
        "move_between": ["fence", "other"],
        "own_moves": ["fence"],
    },
    "widths": {
        "fence_width": ["fence", "direction"],
        "line_number": ["fence", "size", "direction"],
        "thin_directions": ["fence"],
    },
    "hulls": {
        "stake_hull": ["fence", "size"],
        "inner_fence": ["fence", "size"],
    },
    "cuts": {
        "cut_fence": ["fence", "line"],
        "cut_counts": ["fence", "line", "size"],
    },
    "seen": {
        "fits_count": ["bottom", "looks"],
        "nth_fit": ["bottom", "looks", "index"],
        "clash_index": ["bottom", "looks"],
        "sure_counts": ["bottom", "looks", "last"],
        "telling_sizes": ["bottom", "looks"],
    },
    "texts": {
        "format_fence": ["fence"],
        "format_rule": ["rule"],
        "format_move": ["move"],
        "parse_fence": ["text"],
        "parse_rule": ["text"],
        "parse_move": ["text"],
    },
}
CLASSES = {
    "live": ("LiveFarm", {
        "put_fence": ["name", "fence"],
        "take_fence": ["name"],
        "set_size": ["size"],
        "move_fence": ["name", "move"],
        "undo": [],
        "fence_named": ["name"],
        "count_named": ["name"],
        "fork": [],
        "__len__": [],
        "__eq__": ["other"],
    }, ["size", "names", "total", "log"]),
    "console": ("Console", {"execute": ["command"]}, []),
}


class TestInterface(unittest.TestCase):
    def test_functions(self):
        for file, functions in INTERFACE.items():
            module = importlib.import_module("growfences." + file)
            for name, arguments in functions.items():
                with self.subTest(file=file, name=name):
                    function = getattr(module, name)
                    self.assertTrue(inspect.isfunction(function))
                    self.assertEqual(function.__module__, "growfences." + file)
                    signature = inspect.signature(function)
                    self.assertEqual(list(signature.parameters), arguments)
                    for parameter in signature.parameters.values():
                        self.assertIs(parameter.kind, inspect.Parameter.POSITIONAL_OR_KEYWORD)
                        self.assertIs(parameter.default, inspect.Parameter.empty)

    def test_classes(self):
        for file, (name, methods, properties) in CLASSES.items():
            kind = getattr(importlib.import_module("growfences." + file), name)
            self.assertEqual((kind.__module__, kind.__name__), ("growfences." + file, name))
            self.assertEqual(list(inspect.signature(kind).parameters), [])
            for method, arguments in methods.items():
                self.assertTrue(inspect.isfunction(vars(kind)[method]), method)
                signature = inspect.signature(vars(kind)[method])
                self.assertEqual(list(signature.parameters), ["self"] + arguments)
                for parameter in signature.parameters.values():
                    self.assertIs(parameter.kind, inspect.Parameter.POSITIONAL_OR_KEYWORD)
                    self.assertIs(parameter.default, inspect.Parameter.empty)
            for word in properties:
                self.assertIsInstance(vars(kind)[word], property)

    def test_error_classes_stand_in_their_file(self):
        module = importlib.import_module("growfences.errors")
        for name, value in vars(module).items():
            if inspect.isclass(value):
                self.assertEqual(value.__module__, "growfences.errors", name)


if __name__ == "__main__":
    unittest.main()
