"""What operators and properties run (LANGUAGE.md, L5): it changes nothing that it did not make, and yields nothing."""

import ast
import inspect
import random
import sys
import unittest

from tests.oracles import NAMES, likely_system, random_pairs
from tests.test_dealings import APART, EVERY, PAIR, SUM
from tests.test_language import BUILTINS, FOLDER, METHODS, trees
from whateverboxes.dealers import Dealer
from whateverboxes.systems import System

CHANGES = "append add clear discard extend insert pop popitem remove reverse setdefault sort update".split()
MAKERS = "list dict set sorted".split()


def package_functions():
    """All functions and methods of the package by their names; the `__init__` of a class also by the class's name."""
    found = {}
    for _, tree in trees():
        for node in ast.walk(tree):
            if isinstance(node, ast.FunctionDef):
                found.setdefault(node.name, []).append(node)
            elif isinstance(node, ast.ClassDef):
                found.setdefault(node.name, []).extend(
                    [one for one in node.body if getattr(one, "name", "") == "__init__"])
    return found


def is_property(node):
    return "property" in map(ast.unparse, node.decorator_list)


def last_word(node):
    return ast.unparse(node).split(".")[-1]


def functions_run_by(start, known):
    """The function and all that it calls, however far down, whatever object a method is called off."""
    run = [start]
    for node in run:
        for one in ast.walk(node):
            found = []
            if isinstance(one, ast.Call) and last_word(one.func) != "__init__":
                found = known.get(last_word(one.func), [])
            elif isinstance(one, ast.Attribute):
                found = [other for other in known.get(one.attr, []) if is_property(other)]
            run += [other for other in found if other not in run]
    return run


def owner(node):
    """The name of what an item, or what `setdefault` gives, belongs to."""
    while isinstance(node, ast.Subscript) or (isinstance(node, ast.Call) and last_word(node.func) == "setdefault"):
        node = node.value if isinstance(node, ast.Subscript) else node.func.value
    return ast.unparse(node)


def is_made(value):
    """Whether an expression makes a new list, dict or set."""
    if isinstance(value, ast.BinOp) and isinstance(value.op, ast.Add):
        return is_made(value.left) or is_made(value.right)
    return isinstance(value, (ast.List, ast.Dict, ast.Set, ast.ListComp, ast.DictComp)) or (
        isinstance(value, ast.Call) and ast.unparse(value.func) in MAKERS)


def names_given(node, fits):
    """The names that a function gives, by plain assignments alone, to nothing but values that fit."""
    good, bad = set(), {one.arg for one in ast.walk(node) if isinstance(one, ast.arg)}
    plain = []
    for one in ast.walk(node):
        if isinstance(one, ast.Assign):
            plain += [(target, one.value) for target in one.targets if isinstance(target, ast.Name)]
        elif isinstance(one, ast.AugAssign):
            plain.append((one.target, one.value))
    for target, value in plain:
        (good if fits(value) else bad).add(ast.unparse(target))
    stored = [one for one in ast.walk(node) if isinstance(one, ast.Name) and isinstance(one.ctx, ast.Store)]
    bad |= {one.id for one in stored if all(one is not target for target, _ in plain)}
    return good - bad


def faults(node, known):
    """What a function that an operator or a property runs does, but must not do."""
    made = names_given(node, is_made)
    numbers = names_given(node, lambda value: isinstance(value, ast.Constant))
    for one in ast.walk(node):
        bad = False
        if isinstance(one, (ast.Yield, ast.YieldFrom, ast.Lambda, ast.Global, ast.Nonlocal)):
            bad = True
        elif isinstance(one, ast.AugAssign) and isinstance(one.target, ast.Name):
            bad = one.target.id not in numbers
        elif isinstance(one, ast.Subscript) and not isinstance(one.ctx, ast.Load):
            bad = owner(one) not in made
        elif isinstance(one, ast.Attribute) and not isinstance(one.ctx, ast.Load):
            bad = node.name != "__init__" or ast.unparse(one.value) != "self"
        elif isinstance(one, ast.Call) and isinstance(one.func, ast.Attribute):
            name = one.func.attr
            bad = owner(one.func.value) not in made if name in CHANGES else name not in [*known, *METHODS]
        elif isinstance(one, ast.Call):
            bad = ast.unparse(one.func) not in [*known, *BUILTINS]
        if bad:
            yield ast.unparse(one)


def contents(thing):
    """All that an object holds, however far down."""
    if isinstance(thing, (list, tuple)):
        return type(thing).__name__, [contents(one) for one in thing]
    if isinstance(thing, dict):
        return "dict", [(key, contents(value)) for key, value in thing.items()]
    if type(thing).__module__.startswith("whateverboxes."):
        return type(thing).__name__, contents(vars(thing))
    return thing


def functions_seen(look):
    """The code of all functions of the package that run while something is looked at."""
    seen = []

    def note(frame, event, _):
        if event == "call" and frame.f_code.co_filename.startswith(str(FOLDER)):
            seen.append(frame.f_code)

    before = sys.getprofile()
    sys.setprofile(note)
    try:
        look()
    finally:
        sys.setprofile(before)
    return seen


class CodeTest(unittest.TestCase):
    def test_operators_and_properties(self):
        known = package_functions()
        starts = [node for nodes in known.values() for node in nodes if is_property(node)
                  or (node.name.startswith("__") and node.name not in ("__init__", "__call__"))]
        self.assertLessEqual({"dealt", "stuck", "__len__", "__contains__", "__and__", "__mul__", "__str__"},
                             {node.name for node in starts})
        for start in starts:
            run = functions_run_by(start, known)
            for node in run:
                self.assertEqual(list(faults(node, known)), [], (start.name, node.name))
            if start.name == "stuck":
                self.assertLessEqual({"solution_with", "rows_with", "by_totals"}, {node.name for node in run})

    def test_faults_are_found(self):
        for line in ("yield xs", "yield from xs", "xs.append(1)", "xs[0] = 1", "xs[0] += 1", "del xs[0]", "xs += [1]",
                     "self.xs = 1", "self.xs[0] = 1", "self.xs += 1", "self.xs.pop()", "ys = xs; ys.append(1)", "xs()",
                     "self.xs()", "self.xs.setdefault(1, []).append(1)", "ys = [xs]; ys = xs; ys.append(1)",
                     "ys, zs = [], xs; zs.append(1)", "self.xs[0].append(1)", "return [xs.pop() for x in xs]"):
            node = ast.parse(f"def run(self, xs): {line}").body[0]
            self.assertTrue(list(faults(node, {})), line)
        for line in ("ys = []; ys.append(xs)", "ys = {}; ys.setdefault(1, []).append(xs)", "ys = [*xs]; del ys[0]",
                     "ys = list(xs); ys[0] = 1", "ys = [x for x in xs] + xs; ys.pop()", "n = 0; n += 1",
                     "return len(xs)"):
            node = ast.parse(f"def run(self, xs): {line}").body[0]
            self.assertEqual(list(faults(node, {})), [], line)


class ReadingTest(unittest.TestCase):
    def dealers(self):
        """Dealers with some numbers dealt: with none stuck, with some stuck, and with none dealt."""
        rng = random.Random(781)
        four = System(NAMES[:4], (((1, 1, -1, -1), 0),))
        rests = System(NAMES[:3], (), (((1, 1, 1), 1, 2), ((1, 0, 0), 0, 3)))
        tasks = [(SUM, 2, ()), (SUM, 6, ()), (APART, 3, PAIR), (four, 4, EVERY), (rests, 2, PAIR)]
        for _ in range(20):
            system = likely_system(rng, rng.randint(1, 3), 1, rng.randint(0, 1), 2)
            tasks.append((system, rng.randint(1, 3), random_pairs(rng, system.names, 2) if rng.randrange(2) else ()))
        for system, boxes, pairs in tasks:
            dealer = Dealer(system, boxes, unlike=pairs)
            yield dealer
            for number in rng.sample(range(1, 31), 12):
                if dealer.free(number):
                    dealer.deal(number, rng.choice(dealer.free(number)))
            yield dealer

    def test_nothing_that_yields_runs(self):
        names = set()
        for dealer in self.dealers():
            for look in (lambda: dealer.stuck, lambda: dealer.dealt, lambda: len(dealer), lambda: 4 in dealer):
                for code in functions_seen(look):
                    self.assertFalse(code.co_flags & inspect.CO_GENERATOR, code.co_name)
                    names.add(code.co_name)
        self.assertLessEqual({"stuck", "dealt", "solution_with", "rows_with", "by_totals"}, names)

    def test_nothing_changes(self):
        stuck = []
        for dealer in self.dealers():
            before = contents(dealer)
            stuck.append(dealer.stuck)
            self.assertEqual((dealer.stuck, contents(dealer)), (stuck[-1], before))
            dealt = dealer.dealt
            self.assertEqual((len(dealer), 4 in dealer), (len(dealt), 4 in dict(dealt)))
            self.assertEqual(contents(dealer), before)
        self.assertGreater(sum(one is not None for one in stuck), 8)
        self.assertGreater(stuck.count(None), 20)


if __name__ == "__main__":
    unittest.main()
