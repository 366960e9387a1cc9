"""Point 28: findings."""

import random
import unittest

from tests.oracles import (NAMES, box, fulfils, is_asked, is_integer_tuple, is_modulo_verdict, is_verdict, likely_system,
                           odd_values, program_of, put_otherwise, random_pairs, random_system, spoiled)
from tests.searches import is_closed_set, is_solution, is_tree
from tests.test_closed import cases
from tests.test_machines import random_machine
from tests.test_programs import some_program
from whateverboxes.dealings import tree
from whateverboxes.errors import BadMachine, BadText
from whateverboxes.findings import finding_holds
from whateverboxes.fits import closed, solved
from whateverboxes.machines import Machine
from whateverboxes.programs import Program
from whateverboxes.systems import System
from whateverboxes.verdicts import modulo_verdict, verdict

SUM = "names x y z\nx + y - z = 0"
THREE = "names x y z\nx + y - 3 z = 0"
APART = "names x y z\nx - 2 y + z = 0"
TIED = "names x y\nx - y = 0\nx = 1 mod 3"
STEP = "names x y\nx - y = -1"
SHOWN = (1, (0, 1, 0), ((1, 0, 1), (0, 1, 1)))
PROGRAM = "take x\ntake d\nlet y = x + d\nlet z = x + 2 d\nkeep x y z"
PAIR = (("x", "y"),)
LEAF = ("solved", (1, 1, 2))
BAD_TEXTS = ("", "names", "names x y z\nx + y - z = 0\n", "names x y z\ny + x - z = 0", "names x y z\nx + y - z=0",
             "Names x y z\nx + y - z = 0", "names x y z \nx + y - z = 0", "names x x z\nx - z = 0", "x + y - z = 0")


def parts(machine):
    return machine.base, machine.steps, machine.boxes


def read(text):
    """The system of a text; None for any other value."""
    try:
        return System.read(text) if type(text) is str else None
    except BadText:
        return None


def machine_of(thing):
    """The machine that a value is, word for word; None if it is none."""
    if type(thing) is not tuple or len(thing) != 3:
        return None
    base, steps, boxes = thing
    if type(base) is not int or base not in range(2, 11) or type(steps) is not tuple or len(steps) < 1:
        return None
    for row in steps:
        if not is_integer_tuple(row, base) or not all(state in range(len(steps)) for state in row):
            return None
    if not is_integer_tuple(boxes, len(steps)) or any(number < 0 for number in boxes):
        return None
    try:
        return Machine(base, steps, boxes)
    except BadMachine:
        return None


def are_pairs(system, thing):
    return type(thing) is tuple and all(type(pair) is tuple and len(pair) == 2 and type(pair[0]) is type(pair[1]) is str
                                        and len(set(pair)) == 2 and set(pair) <= set(system.names) for pair in thing)


def is_finding(thing):
    """Whether a value is a finding about verdicts, solutions, closed sets or trees, word for word."""
    if type(thing) is not tuple or len(thing) < 3 or type(thing[0]) is not str:
        return False
    word, text, *rest = thing
    system = read(text)
    if system is None:
        return False
    if (word, len(rest)) == ("verdict", 2):
        return are_pairs(system, rest[0]) and is_verdict(system, rest[1], rest[0])
    if (word, len(rest)) == ("modulo", 1):
        return is_modulo_verdict(system, rest[0])
    if (word, len(rest)) == ("solved", 2):
        machine = machine_of(rest[0])
        return machine is not None and is_solution(system, (), rest[1]) and len(set(map(machine, rest[1]))) == 1
    if (word, len(rest)) == ("closed", 2):
        machine = machine_of(rest[0])
        return machine is not None and not system.rests and is_closed_set(system, machine, rest[1])
    if (word, len(rest)) == ("tree", 4):
        pairs, boxes, most, shown = rest
        if not are_pairs(system, pairs) or type(boxes) is not int or type(most) is not int or boxes < 1 or most < 1:
            return False
        return is_tree(system, boxes, most, shown, {}, pairs)
    return False


class FindingsTest(unittest.TestCase):
    def look(self, thing, right):
        told = finding_holds(thing)
        self.assertIs(type(told), bool)
        self.assertIs(told, right, str(thing)[:300])

    def all_shapes(self, thing):
        """A right finding, and what is not one since it is too long or too short, a list, or has another word."""
        self.look(thing, True)
        self.look(list(thing), False)
        self.look(thing[:-1], False)
        self.look(thing + (thing[-1],), False)
        self.look(thing + (None,), False)
        self.look(thing[:1] + thing[2:], False)
        self.look(thing[1:], False)
        self.look((thing,), False)
        for word in ("", "Verdict", thing[0] + " ", thing[0].upper(), "findings", None, 0, (thing[0],), [thing[0]]):
            self.look((word,) + thing[1:], False)
        for text in BAD_TEXTS + (None, 0, (thing[1],), [thing[1]], thing[1].split("\n"), thing[1] + "\n"):
            self.look(thing[:1] + (text,) + thing[2:], False)


class KindsTest(FindingsTest):
    def test_by_name(self):
        self.assertIs(finding_holds(thing=("brings", SUM, SUM)), True)
        self.assertIs(finding_holds(thing=None), False)

    def test_verdicts(self):
        self.all_shapes(("verdict", SUM, (), ("form", 0, SHOWN)))
        self.all_shapes(("verdict", THREE, (), ("digits", 0, 5)))
        self.all_shapes(("verdict", TIED, PAIR, ("never", "x", "y")))
        self.all_shapes(("verdict", STEP, (), ("modulo", 2)))
        self.look(("verdict", TIED, (), ("alike", 1)), True)
        self.look(("verdict", TIED, PAIR, ("alike", 1)), False)
        self.look(("verdict", TIED, (), ("never", "x", "y")), False)
        self.look(("verdict", TIED, (("y", "x"),), ("never", "x", "y")), False)
        self.look(("verdict", TIED, (("y", "x"), ("x", "y")), ("never", "x", "y")), True)
        self.look(("verdict", SUM, PAIR, ("form", 0, SHOWN)), True)
        self.look(("verdict", SUM, PAIR, ("form", 0, (1, (0, 0, 0), ((1, 1, 2),)))), False)
        self.look(("verdict", THREE, (), ("digits", 0, 7)), True)
        self.look(("verdict", THREE, (), ("digits", 0, 3)), False)
        self.look(("verdict", THREE, (), ("digits", 0, 2)), False)

    def test_pairs(self):
        for pairs, right in (((), True), (PAIR, True), (PAIR * 7, True), ((("y", "x"), ("z", "y")), True),
                             ((("x", "x"),), False), ((("x", "u"),), False), ((("u", "x"),), False), ((("x",),), False),
                             ((("x", "y", "z"),), False), (("x", "y"), False), ("xy", False), (("xy",), False),
                             ([("x", "y")], False), ((["x", "y"],), False), (None, False), (((),), False),
                             ((("x", None),), False), ((("x", "y"), 3), False), ({"x": "y"}, False), (0, False),
                             ((("x", ("y",)),), False), ((([], "y"),), False)):
            self.look(("verdict", THREE, pairs, ("digits", 0, 5)), right)
            tall = ("deal", 1, (("deal", 2, (("deal", 3, (("solved", (1, 2, 3)),)),)),))
            self.look(("tree", APART, pairs, 1, 3, tall), right)

    def test_verdicts_about_remainders(self):
        self.all_shapes(("modulo", THREE, ("ahead", 0, (2, 1, 1))))
        self.all_shapes(("modulo", "names x y z\nx + y + z = 0", ("weights", (1, 1, 1))))
        self.all_shapes(("modulo", STEP, ("modulo", 2)))
        self.look(("modulo", TIED, ("alike", 1)), True)
        self.look(("modulo", TIED, ("alike", 2)), False)
        self.look(("modulo", THREE, ("digits", 0, 5)), False)
        self.look(("modulo", SUM, ("form", 0, SHOWN)), False)
        self.look(("modulo", SUM, ("ahead", 0, (1, 1, 2))), True)

    def test_what_brings_what(self):
        self.all_shapes(("brings", TIED, "names x y\nx - y = 0"))
        self.all_shapes(("brings", "names x\nx = 1 mod 6", "names x\nx = 1 mod 3"))
        self.look(("brings", "names x y\nx - y = 0", TIED), False)
        self.look(("brings", "names x\nx = 1 mod 3", "names x\nx = 1 mod 6"), False)
        self.look(("brings", SUM, "names x z y\nx - z + y = 0"), False)
        self.look(("brings", SUM, "names x y u\nx + y - u = 0"), False)
        self.look(("brings", "names x y\n2 x - 2 y = 4", "names x y\nx - y = 2"), True)
        self.look(("brings", "names x y\nx - y = 2", "names x y\n2 x - 2 y = 4"), True)
        self.look(("brings", "names x y\n2 x - 2 y = 3", "names x y\nx = 77"), True)
        self.look(("brings", "names x y\n2 x - 2 y = 3", "names x\nx = 77"), False)
        self.look(("brings", "names x", "names x\n0 = 0"), True)
        for text in BAD_TEXTS + (None, 3, (SUM,)):
            self.look(("brings", SUM, text), False)

    def test_what_programs_ask(self):
        self.all_shapes(("asks", PROGRAM, APART))
        for other, right in ((APART, True), ("names x y z\n2 x - 4 y + 2 z = 0", True),
                             ("names x y z\nx - 2 y + z = 0\nx + z = 0 mod 2", True), (SUM, False), ("names x y z", False),
                             ("names x z y\nx + z - 2 y = 0", False), ("names x y z\nx - 2 y + z = 0\nx = 0 mod 2", False),
                             ("names x y u\nx - 2 y + u = 0", False), ("names x y z\nx - 2 y + z = 2", False)):
            self.look(("asks", PROGRAM, other), right)
        self.look(("asks", PROGRAM[:-2], "names x y"), True)
        self.look(("asks", PROGRAM[:-1] + "y", APART), False)
        self.look(("asks", PROGRAM + "\n", APART), False)
        self.look(("asks", APART, PROGRAM), False)
        self.look(("asks", "take x\ncheck 2 x = 1\nkeep x", "names x\n0 = 3"), True)
        self.look(("asks", "take x\ncheck 2 x = 1\nkeep x", "names x"), False)
        self.look(("asks", "take x\nlet y = 6 x\nkeep y", "names y\ny = 0 mod 2\ny = 0 mod 3"), True)
        self.look(("asks", "take x\nlet y = 6 x\nkeep y", "names y\ny = 0 mod 3"), False)
        for text in BAD_TEXTS + (None, 3, (APART,)):
            self.look(("asks", PROGRAM, text), False)

    def test_solutions(self):
        even = parts(Machine.modulo(2, 2))
        self.all_shapes(("solved", SUM, even, (2, 2, 4)))
        for numbers, right in (((2, 4, 6), True), ((100, 2, 102), True), ((1, 1, 2), False), ((2, 2, 5), False),
                               ((10 ** 58, 10 ** 59, 11 * 10 ** 58), True), ((-2, 4, 2), False), ((0, 2, 2), False),
                               ((2, 4), False), ([2, 2, 4], False), (("2", 2, 4), False), ((True, 1, 2), False), (None, False),
                               ((2, 2, 4, 2), False), ((), False), (((2, 2, 4),), False)):
            self.look(("solved", SUM, even, numbers), right)
        one = (2, ((0, 0),), (0,))
        self.look(("solved", "names x y\nx - y = 0\nx = 1 mod 3", one, (4, 4)), True)
        self.look(("solved", "names x y\nx - y = 0\nx = 1 mod 3", one, (5, 5)), False)
        self.look(("solved", "names x y", one, (7, 9)), True)
        self.look(("solved", "names x y", even, (7, 8)), False)

    def test_closed_sets(self):
        even = Machine.modulo(2, 2)
        made = closed(System.read(STEP), even)
        self.all_shapes(("closed", STEP, parts(even), made))
        self.look(("closed", STEP, parts(even), made[1:]), False)
        self.look(("closed", STEP, parts(even), list(made)), False)
        self.look(("closed", STEP + "\n0 = 0 mod 2", parts(even), made), False)
        self.look(("closed", STEP + "\nx = 0 mod 2", parts(even), made), False)
        self.look(("closed", SUM, parts(even), made), False)
        self.look(("closed", STEP, parts(Machine.sums(2, 2)), made), False)
        self.look(("closed", STEP, parts(even), None), False)
        last = Machine.last(5)
        self.look(("closed", THREE, parts(last), closed(System.read(THREE), last)), True)

    def test_trees(self):
        for text, pairs, boxes, most in ((SUM, (), 1, 2), (SUM, (), 2, 5), (APART, PAIR, 1, 3), (APART, PAIR, 2, 9)):
            made = tree(System.read(text), boxes, most, unlike=pairs)
            self.all_shapes(("tree", text, pairs, boxes, most, made))
            self.look(("tree", text, pairs, boxes, most + 1, made), True)
            self.look(("tree", text, pairs, boxes, 10 ** 50, made), True)
            self.look(("tree", text, pairs, boxes, most - 1, made), False)
            for many in (boxes + 1, boxes - 1, 0, -1, True, 10 ** 50, str(boxes), None, (boxes,)):
                self.look(("tree", text, pairs, many, most, made), False)
            for many in (0, -1, True, str(most), None, (most,), [most]):
                self.look(("tree", text, pairs, boxes, many, made), False)
        self.look(("tree", SUM, (), 2, 9, LEAF), False)
        self.look(("tree", SUM, (), 0, 9, ("deal", 1, ())), False)
        self.look(("tree", SUM, (), False, 9, ("deal", 1, ())), False)
        always = "names x y\nx - y = 0"
        leaf = ("solved", (5, 5))
        self.look(("tree", always, (), 1, 5, ("deal", 5, (leaf,))), True)
        self.look(("tree", always, (), True, 5, ("deal", 5, (leaf,))), False)
        self.look(("tree", always, (), 1, True, ("deal", 1, (("solved", (1, 1)),))), False)
        self.look(("tree", always, (), 1, 1, ("deal", 1, (("solved", (1, 1)),))), True)
        self.look(("tree", always, (), 2000, 5, ("deal", 5, (leaf,) * 2000)), True)
        self.look(("tree", always, (), 1, 10 ** 59, ("deal", 10 ** 59, (("solved", (10 ** 59,) * 2),))), True)
        self.look(("tree", always, (("y", "x"),), 1, 5, ("deal", 5, (leaf,))), False)


class MachinesTest(FindingsTest):
    def test_machines(self):
        good = (3, ((0, 1, 1), (1, 1, 0)), (4, 0))
        self.look(("solved", "names x", good, (2,)), True)
        for wrong in ((3, ((0, 1, 2), (1, 1, 0)), (4, 0)), (3, ((0, 1, -1), (1, 1, 0)), (4, 0)),
                      (3, ((0, 1), (1, 1, 0)), (4, 0)), (3, ((0, 1, 1, 1), (1, 1, 0)), (4, 0)),
                      (2, ((0, 1, 1), (1, 1, 0)), (4, 0)), (3, ((0, 1, 1), (1, 1, 0)), (4, -1)),
                      (3, ((0, 1, 1), (1, 1, 0)), (4,)), (3, ((0, 1, 1), (1, 1, 0)), (4, 0, 1)),
                      (3, ((0, 1, 1), (1, 1, 0)), [4, 0]), (3, [(0, 1, 1), (1, 1, 0)], (4, 0)),
                      (3, ((0, 1, 1), [1, 1, 0]), (4, 0)), (3, ((0, 1, True), (1, 1, 0)), (4, 0)),
                      (3, ((0, 1, 1), (1, 1, 0)), (4, False)), (3, ((1, 1, 1), (1, 1, 0)), (4, 0)),
                      (3, ((0, 1, 1), (0, 1, 0)), (4, 0)), (3, (), ()), (3, ((),), (0,)), (1, ((0,),), (0,)),
                      (11, ((0,) * 11,), (0,)), (True, ((0,),), (0,)), ("3", good[1], good[2]), good[:2], good + (0,),
                      list(good), None, 3, "machine", Machine(*good), (good,), (3, ((0, 1, 1), 7), (4, 0)),
                      (3, ((0, 1, 1), (1, 1, None)), (4, 0)), (3, ((0, 1, 1), (1, 1, 0)), (4, "0")), (0, (), ()),
                      (-3, good[1], good[2]), (3, {0: (0, 0, 0)}, (0,))):
            self.look(("solved", "names x", wrong, (2,)), False)
            self.look(("closed", "names x\n2 x = 1", wrong, (((-1,), (0,), (0,)),)), machine_of(wrong) is not None)
        for base in (2, 10):
            self.look(("solved", "names x", (base, ((0,) * base,), (9,)), (2,)), True)

    def test_states_that_are_not_reached(self):
        # Their boxes may differ by zeros, but they must be states with boxes from 0 on.
        for steps, boxes, right in ((((0, 0), (0, 1)), (0, 3), True), (((0, 0), (0, 2)), (0, 3), False),
                                    (((0, 0), (0, 1)), (0, -3), False), (((0, 0), (0, 1, 1)), (0, 3), False),
                                    (((0, 1), (0, 1)), (0, 3), False)):
            self.look(("solved", "names x", (2, steps, boxes), (6,)), right)

    def test_each_machine_of_point_21(self):
        for base in range(2, 11):
            for machine in (Machine.modulo(base, 12), Machine.last(base), Machine.first(base), Machine.sums(base, 7),
                            Machine.last(base) * Machine.first(base)):
                self.look(("solved", "names x y\nx - y = 0", parts(machine), (99, 99)), True)
                for high in range(90, 100):
                    self.look(("solved", "names x y", parts(machine), (high, 99)),
                              machine(high) == machine(99))


class MadeTest(FindingsTest):
    def spoil(self, rng, thing, times, seen):
        for _ in range(times):
            wrong = spoiled(rng, thing)
            right = is_finding(wrong)
            seen[right] += 1
            self.look(wrong, right)

    def test_verdicts_that_are_returned(self):
        rng = random.Random(781)
        seen = {True: 0, False: 0}
        for _ in range(70):
            width = rng.randint(1, 3)
            system = likely_system(rng, width, rng.randint(0, 2), rng.randint(0, 1 if width == 3 else 2), 2)
            pairs = random_pairs(rng, system.names, 2)
            text = str(system)
            for thing in (("verdict", text, pairs, verdict(system, unlike=pairs)), ("modulo", text, modulo_verdict(system))):
                self.look(thing, True)
                self.spoil(rng, thing, 8, seen)
        self.assertGreater(min(seen.values()), 40)

    def test_solutions_and_closed_sets_that_are_returned(self):
        rng = random.Random(782)
        seen = {True: 0, False: 0}
        for system, machine in cases(rng, 25, 600):
            thing = ("closed", str(system), parts(machine), closed(system, machine))
            self.look(thing, True)
            self.spoil(rng, thing, 12, seen)
        count = 0
        while count < 40:
            system = random_system(rng, rng.randint(1, 3), rng.randint(0, 1), 0, 2)
            machine = random_machine(rng, 2, 3)
            numbers = solved(system, machine)
            if numbers is not None:
                count += 1
                thing = ("solved", str(system), parts(machine), numbers)
                self.look(thing, True)
                self.spoil(rng, thing, 12, seen)
        self.assertGreater(seen[False], 500)

    def test_trees_that_are_returned(self):
        rng = random.Random(783)
        seen = {True: 0, False: 0}
        count = 0
        while count < 60:
            system = likely_system(rng, rng.randint(1, 3), 1, rng.randint(0, 1), 2)
            pairs = random_pairs(rng, system.names, 2)
            boxes, most = rng.choice(((1, 12), (2, 7), (3, 4)))
            shown = tree(system, boxes, most, unlike=pairs)
            if shown is None:
                continue
            count += 1
            thing = ("tree", str(system), pairs, boxes, most, shown)
            self.look(thing, True)
            self.spoil(rng, thing, 20, seen)
        self.assertGreater(min(seen.values()), 40)

    def test_what_programs_are_returned_to_ask(self):
        rng = random.Random(784)
        seen = {True: 0, False: 0}
        count = 0
        while count < 40:
            text = some_program(rng)
            program = Program.read(text)
            system = program.system()
            if len(system.names) > 3:
                continue
            count += 1
            self.look(("asks", text, str(system)), True)
            self.look(("asks", text, str(put_otherwise(rng, system))), True)
            self.look(("brings", str(put_otherwise(rng, system)), str(system)), True)
            lines = program_of(text)
            asked = [numbers for numbers in box(len(system.names), -3, 3) if is_asked(lines, numbers)]
            for _ in range(3):
                other = random_system(rng, len(system.names), rng.randint(0, 1), rng.randint(0, 1), 2)
                other = System(system.names, *rng.choice(((other.rows, other.rests), (system.rows + other.rows, system.rests),
                                                          (system.rows, system.rests + other.rests), (system.rows[1:],
                                                                                                      system.rests))))
                told = finding_holds(("asks", text, str(other)))
                seen[told] += 1
                self.assertIs(told, other.is_same(system))
                same = [numbers for numbers in box(len(system.names), -3, 3) if fulfils(other.rows, other.rests, numbers)]
                if told:
                    self.assertEqual(same, asked)
                elif same != asked:
                    self.assertIs(told, False)
        self.assertGreater(min(seen.values()), 15)

    def test_any_value(self):
        values = odd_values()
        for value in values:
            self.look(value, False)
            for word, length in (("verdict", 4), ("modulo", 3), ("brings", 3), ("asks", 3), ("solved", 4), ("closed", 4),
                                 ("tree", 6)):
                self.look((word,) + (value,) * (length - 1), False)
                self.look((word, SUM) + (value,) * (length - 2), False)
            self.look(("verdict", SUM, (), value), False)
            self.look(("verdict", SUM, value, ("form", 0, SHOWN)), value == () or value == PAIR)
            self.look(("modulo", SUM, value), False)
            self.look(("asks", PROGRAM, value), False)
            self.look(("solved", SUM, value, (2, 2, 4)), False)
            self.look(("solved", SUM, (2, ((0, 0),), (0,)), value), False)
            self.look(("closed", STEP, (2, ((0, 0),), (0,)), value), False)
            self.look(("tree", SUM, (), 2, 5, value), False)
            self.look(("tree", SUM, (), value, 5, LEAF), False)
        for word in ("verdict", "modulo", "brings", "asks", "solved", "closed", "tree"):
            self.look((word,), False)
            self.look(word, False)


if __name__ == "__main__":
    unittest.main()
