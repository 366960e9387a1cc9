"""The interface: names, arguments, and the files and classes in which they are defined."""

import importlib
import inspect
import unittest

FUNCTIONS = {
    "tables": {"rank": "table", "rank_modulo": "table prime", "hermite": "table", "kernel": "table width"},
    "forms": {"alike": "system", "reached": "system", "form": "system", "form_holds": "system thing",
              "form_numbers": "form *numbers"},
    "bars": {"last_digit": "number base", "is_clear": "system prime", "clear_prime": "system"},
    "verdicts": {"verdict": "system * unlike=()", "verdict_holds": "system thing * unlike=()", "barring": "*things",
                 "verdict_of_any": "*systems", "beside": "*systems", "keepable": "system * unlike=()",
                 "modulo_verdict": "system", "modulo_verdict_holds": "system thing"},
    "fits": {"solved": "system machine * unlike=()", "closed": "system machine", "closed_holds": "system machine thing",
             "fit": "system function most * unlike=()"},
    "dealings": {"dealing": "system boxes most * start=() unlike=()", "tree": "system boxes most * start=() unlike=()",
                 "tree_holds": "system boxes most thing * start=() unlike=()",
                 "least_most": "system boxes limit * unlike=()"},
    "findings": {"finding_holds": "thing"},
}
CLASSES = {
    "errors": {"BoxError": {}, "BadText": {"__init__": "self line"}, "Failed": {"__init__": "self line"},
               "BadMachine": {"__init__": "self state"}, "NoForm": {"__init__": "self reached"},
               "TooFar": {"__init__": "self most"}, "Dealt": {"__init__": "self number"},
               "Solved": {"__init__": "self numbers"}, "NothingDealt": {}},
    "systems": {"System": {"__init__": "self names rows rests=()", "fulfils": "self numbers", "point": "self",
                           "moves": "self", "plain_rows": "self", "brings": "self other", "is_same": "self other",
                           "__and__": "self other", "without": "self *indexes", "renamed": "self **names",
                           "equate": "self one other", "__str__": "self", "read": "text"}},
    "programs": {"Program": {"run": "self **inputs", "system": "self", "__str__": "self", "read": "text"}},
    "bars": {"Sorter": {"modulo": "modulus", "digits": "prime * after=0", "__mul__": "self other",
                        "__call__": "self number"}},
    "machines": {"Machine": {"__init__": "self base steps boxes", "modulo": "base modulus", "last": "base",
                             "first": "base", "sums": "base modulus", "__mul__": "self other",
                             "__call__": "self number", "sorter": "self"}},
    "dealers": {"Dealer": {"__init__": "self system boxes * unlike=()", "deal": "self number box",
                           "deal_all": "self *pairs", "take_back": "self", "free": "self number", "box": "self number",
                           "goes_on": "self most", "__contains__": "self number", "__len__": "self"}},
}
PROPERTIES = {("dealers", "Dealer"): "dealt stuck"}
STATIC = {("systems", "System"): "read", ("programs", "Program"): "read", ("bars", "Sorter"): "modulo digits",
          ("machines", "Machine"): "modulo last first sums"}


def told(function):
    """The parameters of a function, in a line; a star stands ahead of those that are passed by name only."""
    words = []
    for one in inspect.signature(function).parameters.values():
        if one.kind == one.KEYWORD_ONLY and "*" not in words:
            words.append("*")
        words.append(str(one))
    return " ".join(words)


class InterfaceTest(unittest.TestCase):
    def test_functions(self):
        for name, functions in FUNCTIONS.items():
            module = importlib.import_module(f"whateverboxes.{name}")
            for one, parameters in functions.items():
                function = vars(module)[one]
                self.assertTrue(inspect.isfunction(function))
                self.assertEqual(function.__module__, module.__name__)
                self.assertEqual(told(function), parameters)

    def test_classes(self):
        for name, classes in CLASSES.items():
            module = importlib.import_module(f"whateverboxes.{name}")
            for one, methods in classes.items():
                made = vars(module)[one]
                self.assertTrue(inspect.isclass(made))
                self.assertEqual(made.__module__, module.__name__)
                for method, parameters in methods.items():
                    self.assertIn(method, vars(made))
                    self.assertEqual(told(getattr(made, method)), parameters)

    def test_what_is_called_off_the_class(self):
        for (name, one), methods in STATIC.items():
            made = vars(importlib.import_module(f"whateverboxes.{name}"))[one]
            for method in methods.split():
                self.assertIsInstance(vars(made)[method], staticmethod)

    def test_properties(self):
        for (name, one), words in PROPERTIES.items():
            made = vars(importlib.import_module(f"whateverboxes.{name}"))[one]
            for word in words.split():
                self.assertIsInstance(vars(made)[word], property)
                self.assertIsNone(vars(made)[word].fset)


if __name__ == "__main__":
    unittest.main()
