"""The interface: names, arguments, and the files and classes in which they are defined."""

import importlib
import inspect
import unittest

FUNCTIONS = {
    "tables": {"rank": "table", "rank_modulo": "table prime", "hermite": "table", "kernel": "table width"},
}
CLASSES = {
    "errors": {"BoxError": {}, "BadText": {"__init__": "self line"}, "Failed": {"__init__": "self line"},
               "BadMachine": {"__init__": "self state"}, "NoForm": {"__init__": "self reached"},
               "TooFar": {"__init__": "self most"}, "Dealt": {"__init__": "self number"},
               "Solved": {"__init__": "self numbers"}, "NothingDealt": {}},
    "systems": {"System": {"__init__": "self names rows rests=()", "fulfils": "self numbers", "point": "self",
                           "moves": "self", "plain_rows": "self", "brings": "self other", "is_same": "self other",
                           "__and__": "self other", "without": "self *indexes", "renamed": "self **names",
                           "equate": "self one other", "__str__": "self", "read": "text"}},
    "programs": {"Program": {"run": "self **inputs", "system": "self", "__str__": "self", "read": "text"}},
}


def told(function):
    """The parameters of a function, in a line."""
    return " ".join(str(one) for one in inspect.signature(function).parameters.values())


class InterfaceTest(unittest.TestCase):
    def test_functions(self):
        for name, functions in FUNCTIONS.items():
            module = importlib.import_module(f"whateverboxes.{name}")
            for one, parameters in functions.items():
                function = vars(module)[one]
                self.assertTrue(inspect.isfunction(function))
                self.assertEqual(function.__module__, module.__name__)
                self.assertEqual(told(function), parameters)

    def test_classes(self):
        for name, classes in CLASSES.items():
            module = importlib.import_module(f"whateverboxes.{name}")
            for one, methods in classes.items():
                made = vars(module)[one]
                self.assertTrue(inspect.isclass(made))
                self.assertEqual(made.__module__, module.__name__)
                for method, parameters in methods.items():
                    self.assertIn(method, vars(made))
                    self.assertEqual(told(getattr(made, method)), parameters)

    def test_read_is_called_off_the_class(self):
        for name, one in (("systems", "System"), ("programs", "Program")):
            made = vars(importlib.import_module(f"whateverboxes.{name}"))[one]
            self.assertIsInstance(vars(made)["read"], staticmethod)


if __name__ == "__main__":
    unittest.main()
