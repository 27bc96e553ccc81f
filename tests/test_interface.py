"""The interface: its names, arguments and files, and the general rules of point [0.1]."""

import copy
import importlib
import inspect
import unittest

from tests.support import SQUARE, assert_same

# For each module its functions with the names of their arguments.
INTERFACE = {
    "yards": {
        "made_yard": "thing", "is_yard": "thing", "all_tracks": "yard", "mirrored": "yard", "mirror_track": "yard t",
    },
    "webs": {"pieces": "yard pick", "rank": "yard pick"},
    "rings": {"ring": "yard pick", "serves": "yard pick", "ring_right": "yard pick thing"},
    "forests": {"forest": "yard pick", "worth": "yard"},
    "rows": {"made_row": "thing", "is_row": "thing", "places": "row", "joined": "one two"},
    "falls": {"layers": "row", "falls": "row", "falling": "row", "falling_right": "row thing"},
    "dealings": {
        "made_dealing": "yard row thing", "is_dealing": "yard row thing", "fallen": "yard row dealing",
    },
    "waits": {"waits_for": "yard row dealing x", "order": "yard row dealing", "stuck": "yard row dealing"},
    "kernel": {
        "order_right": "yard row dealing thing", "stuck_right": "yard row dealing thing",
        "refuted_right": "yard row dealing thing", "cheapest_right": "yard prices m pick",
    },
    "plans": {"plan": "yard pick row"},
    "solver": {"some_dealing": "yard row"},
    "stands": {"is_stand": "yard row thing", "begun": "yard row", "all_home": "stand"},
    "signals": {"greens": "yard row dealing stand"},
    "engine": {"moved": "yard row stand move"},
    "moves": {"told_moves": "yard row dealing", "run": "yard row dealing picks"},
    "journal": {"replayed": "yard row journal", "opened": "yard row journal stand"},
    "badrows": {"bad_row": "yard pick"},
    "refuter": {"refuted": "yard row dealing"},
    "worths": {"adds": "yard a b", "counts": "yard track"},
    "prices": {"made_prices": "yard thing", "cheapest": "yard prices m"},
    "exchanges": {"swaps": "yard one two", "count_forests": "yard m"},
    "shut": {"shut": "yard lanes pick", "fragile": "yard m f"},
    "mirror": {"mirror_dealing": "yard row dealing"},
    "words": {"is_name": "thing"},
    "names": {"is_named": "thing", "made_named": "thing"},
    "readyard": {"read_yard": "text"},
    "printyard": {"print_yard": "named"},
    "readtrain": {"read_train": "text"},
    "printtrain": {"print_train": "row wagons"},
    "movetexts": {
        "read_dealing": "named row wagons text", "print_dealing": "named row wagons dealing",
        "read_moves": "named text", "print_moves": "named moves",
    },
}

# For each module its classes, the errors left out: the arguments, and the methods with theirs.
CLASSES = {
    "journal": {
        "Engine": ("yard row dealing", {
            "stand": "", "journal": "", "greens": "", "home": "", "do": "move", "cut": "move done",
            "again": "yard row dealing journal stand",
        }),
    },
    "desk": {
        "Desk": ("named", {
            "shut": "hand t", "free": "hand t", "undo": "hand", "redo": "hand", "put": "word row wagons",
            "drop": "word", "pick": "", "hands_of": "t", "row": "text",
        }),
    },
}

STATIC = ("again",)

NAMED = (SQUARE, (("a", "b"), ("x", "y")), (5, 1, 0, 9))
STAND = ((0,), ((1,), ()), ((), ()), 0)

# Calls that are answered. A list is no right argument, but a judge that is handed one has to leave it as it is.
CALLS = (
    ("yards", "made_yard", (SQUARE,)),
    ("yards", "is_yard", (SQUARE,)),
    ("yards", "is_yard", ([1, 1, []],)),
    ("yards", "all_tracks", (SQUARE,)),
    ("yards", "mirrored", (SQUARE,)),
    ("yards", "mirror_track", (SQUARE, 1)),
    ("webs", "pieces", (SQUARE, (0, 3))),
    ("webs", "rank", (SQUARE, (0, 3))),
    ("rings", "ring", (SQUARE, (0, 1, 2, 3))),
    ("rings", "serves", (SQUARE, (0, 1, 2, 3))),
    ("rings", "ring_right", (SQUARE, (0, 1, 2, 3), (0, 1, 3, 2))),
    ("rings", "ring_right", (SQUARE, [0, 1, 2, 3], [0, 1, 3, 2])),
    ("forests", "forest", (SQUARE, (0, 1, 2, 3))),
    ("forests", "worth", (SQUARE,)),
    ("rows", "made_row", ((1, 0),)),
    ("rows", "is_row", ((1, 0),)),
    ("rows", "is_row", ([1, 0],)),
    ("rows", "places", ((2, 0, 3, 1),)),
    ("rows", "joined", ((1, 0), (0, 2, 1))),
    ("falls", "layers", ((3, 0, 4, 2, 1),)),
    ("falls", "falls", ((3, 0, 4, 2, 1),)),
    ("falls", "falling", ((3, 0, 4, 2, 1),)),
    ("falls", "falling_right", ((3, 0, 4, 2, 1), (3, 1))),
    ("falls", "falling_right", ((3, 0, 4, 2, 1), [3, 1])),
    ("dealings", "made_dealing", (SQUARE, (1, 0), (0, 3))),
    ("dealings", "is_dealing", (SQUARE, (1, 0), (0, 3))),
    ("dealings", "is_dealing", (SQUARE, [1, 0], [0, 3])),
    ("dealings", "fallen", (SQUARE, (1, 0), (2, 2))),
    ("dealings", "fallen", (SQUARE, (1, 0), (2, 3))),
    ("waits", "waits_for", (SQUARE, (3, 2, 1, 0), (0, 1, 2, 3), 2)),
    ("waits", "order", (SQUARE, (3, 2, 1, 0), (0, 1, 2, 3))),
    ("waits", "stuck", (SQUARE, (3, 0, 1, 2), (0, 1, 3, 2))),
    ("kernel", "order_right", (SQUARE, (3, 2, 1, 0), (0, 1, 2, 3), (1, 3, 0, 2))),
    ("kernel", "order_right", (SQUARE, (3, 2, 1, 0), (0, 1, 2, 3), [1, 3, 0, 2])),
    ("kernel", "stuck_right", (SQUARE, (3, 0, 1, 2), (0, 1, 3, 2), (3, 2, 1, 0))),
    ("kernel", "stuck_right", (SQUARE, [3, 0, 1, 2], [0, 1, 3, 2], [3, 2, 1, 0])),
    ("kernel", "refuted_right", (SQUARE, (1, 0), (2, 2), ("fall", (1, 0)))),
    ("kernel", "refuted_right", (SQUARE, (1, 0), (2, 2), ["fall", [1, 0]])),
    ("kernel", "cheapest_right", (SQUARE, (5, 1, 1, 1), 3, (1, 2, 3))),
    ("kernel", "cheapest_right", (SQUARE, [5, 1, 1, 1], 3, [1, 2, 3])),
    ("plans", "plan", (SQUARE, (0, 1, 2, 3), (3, 0, 4, 2, 1))),
    ("plans", "plan", (SQUARE, (0, 1), (3, 0, 4, 2, 1))),
    ("solver", "some_dealing", (SQUARE, (1, 0))),
    ("solver", "some_dealing", (SQUARE, (3, 2, 1, 0))),
    ("solver", "some_dealing", (SQUARE, (4, 3, 2, 1, 0))),
    ("stands", "is_stand", (SQUARE, (1, 0), STAND)),
    ("stands", "is_stand", (SQUARE, [1, 0], [[0], [[1], []], [[], []], 0])),
    ("stands", "begun", (SQUARE, (1, 0))),
    ("stands", "all_home", (STAND,)),
    ("signals", "greens", (SQUARE, (1, 0), (0, 3), STAND)),
    ("engine", "moved", (SQUARE, (1, 0), STAND, ("in", 1))),
    ("engine", "moved", (SQUARE, (1, 0), STAND, ("over", 1))),
    ("moves", "told_moves", (SQUARE, (1, 0), (0, 3))),
    ("moves", "run", (SQUARE, (1, 0), (0, 3), (0, 1, 3))),
    ("journal", "replayed", (SQUARE, (1, 0), (("in", 0),))),
    ("journal", "opened", (SQUARE, (1, 0), (("in", 0),), STAND)),
    ("journal", "opened", (SQUARE, (1, 0), (("in", 0), ("over", 0)), STAND)),
    ("badrows", "bad_row", (SQUARE, (0, 1, 2, 3))),
    ("badrows", "bad_row", (SQUARE, (0, 1, 2))),
    ("refuter", "refuted", (SQUARE, (1, 0), (2, 2))),
    ("refuter", "refuted", (SQUARE, (1, 0), (2, 3))),
    ("worths", "adds", (SQUARE, 1, 1)),
    ("worths", "counts", (SQUARE, 2)),
    ("prices", "made_prices", (SQUARE, (5, 1, 1, 1))),
    ("prices", "cheapest", (SQUARE, (5, 1, 1, 1), 3)),
    ("prices", "cheapest", (SQUARE, (5, 1, 1, 1), 4)),
    ("exchanges", "swaps", (SQUARE, (0, 1), (2, 3))),
    ("exchanges", "count_forests", (SQUARE, 2)),
    ("shut", "shut", (SQUARE, (0,), (0, 1, 2, 3))),
    ("shut", "shut", (SQUARE, (), (0, 1, 2, 3))),
    ("shut", "fragile", (SQUARE, 3, 1)),
    ("shut", "fragile", (SQUARE, 3, 2)),
    ("mirror", "mirror_dealing", (SQUARE, (1, 2, 0), (1, 1, 2))),
    ("words", "is_name", ("a",)),
    ("words", "is_name", (["a"],)),
    ("names", "is_named", (NAMED,)),
    ("names", "is_named", ([SQUARE, [["a", "b"], ["x", "y"]], [5, 1, 0, 9]],)),
    ("names", "made_named", (NAMED,)),
    ("readyard", "read_yard", ("first a b;second x ; track b-x price 30; track a - x;",)),
    ("printyard", "print_yard", (NAMED,)),
    ("readtrain", "read_train", ("train red blue green; home blue green red;",)),
    ("printtrain", "print_train", ((2, 0, 1), ("blue", "green", "red"))),
    ("movetexts", "read_dealing", (NAMED, (1, 0), ("r", "s"), "r by a - x; s by b - y")),
    ("movetexts", "print_dealing", (NAMED, (1, 0), ("r", "s"), (0, 3))),
    ("movetexts", "read_moves", (NAMED, "in a; over a - x; out x")),
    ("movetexts", "print_moves", (NAMED, (("in", 0), ("over", 0), ("out", 0)))),
)


def function_of(module, name):
    """The function, from the module under whose heading it stands."""
    return getattr(importlib.import_module("trackworth." + module), name)


class InterfaceTest(unittest.TestCase):

    def assert_takes(self, function, arguments):
        """The function takes just these arguments, by position or by name."""
        parameters = inspect.signature(function).parameters.values()
        self.assertEqual([parameter.name for parameter in parameters], arguments.split(), function)
        for parameter in parameters:
            self.assertIs(parameter.default, inspect.Parameter.empty)
            self.assertIs(parameter.kind, inspect.Parameter.POSITIONAL_OR_KEYWORD)

    def test_functions_and_their_arguments(self):
        for module, functions in INTERFACE.items():
            for name, arguments in functions.items():
                self.assert_takes(function_of(module, name), arguments)

    def test_classes_and_their_methods(self):
        for module, classes in CLASSES.items():
            for name, (arguments, methods) in classes.items():
                found = function_of(module, name)
                self.assertTrue(inspect.isclass(found))
                self.assertEqual(found.__module__, "trackworth." + module)
                self.assert_takes(found, arguments)
                for method, told in methods.items():
                    self.assertIn(method, vars(found))
                    static = method in STATIC
                    self.assertEqual(isinstance(vars(found)[method], staticmethod), static)
                    self.assert_takes(getattr(found, method), told if static else "self " + told)

    def test_each_function_is_defined_in_its_file(self):
        for module, functions in INTERFACE.items():
            for name in functions:
                function = function_of(module, name)
                self.assertTrue(inspect.isfunction(function))
                self.assertEqual(function.__module__, "trackworth." + module)

    def test_all_functions_are_called_below(self):
        called = {(module, name) for module, name, _ in CALLS}
        listed = {(module, name) for module, functions in INTERFACE.items() for name in functions}
        self.assertEqual(called, listed)


class GeneralRulesTest(unittest.TestCase):

    def test_equal_calls_answer_the_same(self):
        for module, name, arguments in CALLS:
            function = function_of(module, name)
            assert_same(self, function(*arguments), function(*copy.deepcopy(arguments)))

    def test_nothing_that_is_handed_in_is_changed(self):
        for module, name, arguments in CALLS:
            before = copy.deepcopy(arguments)
            function_of(module, name)(*arguments)
            assert_same(self, arguments, before)

    def test_what_is_returned_is_fresh(self):
        for module, name, arguments in CALLS:
            found = function_of(module, name)(*arguments)
            if isinstance(found, tuple):
                for argument in arguments:
                    self.assertIsNot(found, argument, name)

    def test_only_the_promised_kinds_are_returned(self):
        for module, name, arguments in CALLS:
            self.assertIn(type(function_of(module, name)(*arguments)), (tuple, int, str, bool, type(None)))

    def test_arguments_by_name(self):
        for module, name, arguments in CALLS:
            function = function_of(module, name)
            named = dict(zip(INTERFACE[module][name].split(), arguments))
            assert_same(self, function(**named), function(*arguments))


if __name__ == "__main__":
    unittest.main()
