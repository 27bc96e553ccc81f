"""The interface: its names, arguments and files, and the general rules of point [0.1]."""

import copy
import importlib
import inspect
import unittest

from tests.support import SQUARE, assert_same

# For each module its functions with the names of their arguments.
INTERFACE = {
    "yards": {
        "made_yard": "thing", "is_yard": "thing", "all_tracks": "yard", "mirrored": "yard", "mirror_track": "yard t",
    },
    "webs": {"pieces": "yard pick", "rank": "yard pick"},
    "rings": {"ring": "yard pick", "serves": "yard pick", "ring_right": "yard pick thing"},
    "forests": {"forest": "yard pick", "worth": "yard"},
}

# Calls that are answered; the last two arguments are lists, which a judge has to leave as they are.
CALLS = (
    ("yards", "made_yard", (SQUARE,)),
    ("yards", "is_yard", (SQUARE,)),
    ("yards", "is_yard", ([1, 1, []],)),
    ("yards", "all_tracks", (SQUARE,)),
    ("yards", "mirrored", (SQUARE,)),
    ("yards", "mirror_track", (SQUARE, 1)),
    ("webs", "pieces", (SQUARE, (0, 3))),
    ("webs", "rank", (SQUARE, (0, 3))),
    ("rings", "ring", (SQUARE, (0, 1, 2, 3))),
    ("rings", "serves", (SQUARE, (0, 1, 2, 3))),
    ("rings", "ring_right", (SQUARE, (0, 1, 2, 3), (0, 1, 3, 2))),
    ("rings", "ring_right", (SQUARE, [0, 1, 2, 3], [0, 1, 3, 2])),
    ("forests", "forest", (SQUARE, (0, 1, 2, 3))),
    ("forests", "worth", (SQUARE,)),
)


def function_of(module, name):
    """The function, from the module under whose heading it stands."""
    return getattr(importlib.import_module("trackworth." + module), name)


class InterfaceTest(unittest.TestCase):

    def test_functions_and_their_arguments(self):
        for module, functions in INTERFACE.items():
            for name, arguments in functions.items():
                function = function_of(module, name)
                parameters = inspect.signature(function).parameters.values()
                self.assertEqual([parameter.name for parameter in parameters], arguments.split(), name)
                for parameter in parameters:
                    self.assertIs(parameter.default, inspect.Parameter.empty)
                    self.assertIs(parameter.kind, inspect.Parameter.POSITIONAL_OR_KEYWORD)

    def test_each_function_is_defined_in_its_file(self):
        for module, functions in INTERFACE.items():
            for name in functions:
                function = function_of(module, name)
                self.assertTrue(inspect.isfunction(function))
                self.assertEqual(function.__module__, "trackworth." + module)

    def test_all_functions_are_called_below(self):
        called = {(module, name) for module, name, _ in CALLS}
        listed = {(module, name) for module, functions in INTERFACE.items() for name in functions}
        self.assertEqual(called, listed)


class GeneralRulesTest(unittest.TestCase):

    def test_equal_calls_answer_the_same(self):
        for module, name, arguments in CALLS:
            function = function_of(module, name)
            assert_same(self, function(*arguments), function(*copy.deepcopy(arguments)))

    def test_nothing_that_is_handed_in_is_changed(self):
        for module, name, arguments in CALLS:
            before = copy.deepcopy(arguments)
            function_of(module, name)(*arguments)
            assert_same(self, arguments, before)

    def test_only_the_promised_kinds_are_returned(self):
        for module, name, arguments in CALLS:
            self.assertIn(type(function_of(module, name)(*arguments)), (tuple, int, bool, type(None)))

    def test_arguments_by_name(self):
        for module, name, arguments in CALLS:
            function = function_of(module, name)
            named = dict(zip(INTERFACE[module][name].split(), arguments))
            assert_same(self, function(**named), function(*arguments))


if __name__ == "__main__":
    unittest.main()
