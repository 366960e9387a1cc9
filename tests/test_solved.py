"""Point 22: solutions in one box of a machine whose greatest number is as small as possible."""

import random
import unittest

from tests.oracles import NAMES, parts_of, random_pairs, random_system
from tests.searches import has_end, is_solution, least_greatest, random_kind, size_together
from tests.test_machines import random_machine
from whateverboxes.fits import solved
from whateverboxes.machines import Machine
from whateverboxes.systems import System

MOST = {1: 400, 2: 60, 3: 16, 4: 8}


def any_machine(rng, base):
    """A machine of any kind, with the number of its states."""
    if rng.randrange(2):
        return random_kind(rng, base)
    machine = random_machine(rng, base, 4)
    return machine, len(machine.steps)


class LookTest(unittest.TestCase):
    def look(self, system, machine, pairs, most):
        """Holds what is returned against all solutions up to a number; tells which kind of answer it was."""
        found = solved(system, machine, unlike=pairs)
        best = least_greatest(system, pairs, machine, most)
        if found is None:
            self.assertIsNone(best)
            return "none"
        self.assertTrue(is_solution(system, pairs, found), (str(system), found))
        self.assertEqual(len({machine(number) for number in found}), 1)
        if max(found) <= most:
            self.assertEqual(max(found), best)
            return "long" if max(found) >= machine.base ** 2 else "short"
        self.assertIsNone(best)
        return "far"


class SolvedTest(LookTest):
    def test_examples(self):
        schur = System(NAMES[:3], (((1, 1, -1), 0),))
        three = System(NAMES[:3], (((1, 1, -3), 0),))
        self.assertEqual(solved(schur, Machine.modulo(2, 2)), (2, 2, 4))
        self.assertIsNone(solved(three, Machine.last(5)))
        self.assertIn(solved(three, Machine.modulo(2, 1)), ((1, 2, 1), (2, 1, 1)))
        self.assertEqual(solved(schur, Machine.modulo(3, 3)), (3, 3, 6))
        self.assertIn(solved(schur, Machine.first(10)), ((1, 10, 11), (10, 1, 11)))
        self.assertIn(solved(schur, Machine.last(3)), ((1, 3, 4), (3, 1, 4)))

    def test_arguments_by_name(self):
        system = System(names=("x", "y"), rows=(((1, -1), 0),))
        machine = Machine.modulo(base=3, modulus=2)
        self.assertEqual(solved(machine=machine, system=system), (1, 1))
        self.assertIsNone(solved(machine=machine, unlike=(("y", "x"),), system=system))
        self.assertIsNone(solved(system, machine, unlike=(("x", "y"),)))
        with self.assertRaises(TypeError):
            solved(system, machine, ())

    def test_no_argument_is_changed(self):
        system, machine = System(NAMES[:2], (((1, -2), 3),)), Machine.sums(3, 2)
        pairs = (("x", "y"),)
        before = parts_of(system), machine.base, machine.steps, machine.boxes, machine.many
        self.assertEqual(solved(system, machine, unlike=pairs), solved(system, machine, unlike=pairs))
        self.assertEqual(before, (parts_of(system), machine.base, machine.steps, machine.boxes, machine.many))
        self.assertEqual(pairs, (("x", "y"),))

    def test_random_systems_and_machines(self):
        rng = random.Random(701)
        seen = {}
        for _ in range(1500):
            width = rng.choice((1, 2, 2, 3))
            system = random_system(rng, width, rng.randint(0, 2), 0, rng.choice((1, 2, 3, 9)))
            machine, states = any_machine(rng, rng.choice((2, 2, 3, 3, 4, 5, 10)))
            pairs = random_pairs(rng, system.names, 2) if rng.randrange(2) else ()
            if size_together(system, machine, states, pairs) > 100000:
                continue
            kind = self.look(system, machine, pairs, MOST[width])
            if kind == "none" and rng.randrange(3) == 0:
                self.assertFalse(has_end(system, machine, pairs))
            seen[kind] = seen.get(kind, 0) + 1
        self.assertGreater(seen["none"], 150)
        self.assertGreater(seen["short"], 150)
        self.assertGreater(seen["long"], 30)

    def test_long_numbers(self):
        # Factors that are far apart make solutions of many digits; of these the greatest one must be least.
        rng = random.Random(702)
        seen = {}
        while sum(seen.values()) < 150:
            base = rng.choice((2, 2, 3))
            factors = (rng.randint(1, 9), -rng.randint(1, 9))
            system = System(NAMES[:2], ((factors, rng.randint(-40, 40)),))
            machine, states = any_machine(rng, base)
            pairs = (("x", "y"),) if rng.randrange(3) == 0 else ()
            if size_together(system, machine, states, pairs) > 60000 or machine.many == 1:
                continue
            kind = self.look(system, machine, pairs, 1200)
            seen[kind] = seen.get(kind, 0) + 1
        self.assertGreater(seen["long"], 40)
        self.assertGreater(seen["none"], 20)

    def test_four_and_more_names(self):
        rng = random.Random(703)
        seen = {}
        for _ in range(300):
            width = rng.choice((4, 4, 5, 6))
            system = random_system(rng, width, rng.randint(0, 2), 0, 2)
            machine, states = any_machine(rng, 2)
            pairs = random_pairs(rng, system.names, 3)
            if size_together(system, machine, states, pairs) > 200000:
                continue
            kind = self.look(system, machine, pairs, 7 if width == 4 else 4)
            seen[kind] = seen.get(kind, 0) + 1
        self.assertGreater(seen["none"], 20)
        self.assertGreater(seen["short"] + seen["long"], 20)


class PairsTest(unittest.TestCase):
    def test_pairs(self):
        apart = System(NAMES[:3], (((1, -2, 1), 0),))
        machine = Machine.modulo(2, 2)
        self.assertEqual(solved(apart, machine), (1, 1, 1))
        for pairs in ((("x", "y"),), (("y", "x"),), (("x", "z"), ("y", "z")), (("x", "y"),) * 6):
            self.assertIn(solved(apart, machine, unlike=pairs), ((1, 3, 5), (5, 3, 1)))
        free = System(NAMES[:4], ())
        every = tuple((one, two) for k, one in enumerate(NAMES[:4]) for two in NAMES[k + 1:4])
        found = solved(free, Machine.sums(3, 2), unlike=every)
        self.assertEqual(sorted(found), [1, 3, 5, 7])
        self.assertEqual(max(solved(free, Machine.sums(2, 2), unlike=every)), 7)

    def test_what_is_tied(self):
        tied = System(NAMES[:3], (((2, -2, 0), 0),))
        self.assertIsNone(solved(tied, Machine.last(3), unlike=(("x", "y"),)))
        self.assertIn(solved(tied, Machine.last(3), unlike=(("x", "z"),)), ((1, 1, 3), (3, 3, 1)))


class EdgesTest(LookTest):
    def test_systems_without_rows(self):
        for width in range(1, 7):
            for machine in (Machine.last(2), Machine.first(3), Machine.modulo(2, 3)):
                self.assertEqual(solved(System(NAMES[:width], ()), machine), (1,) * width)

    def test_rows_without_terms(self):
        machine = Machine.modulo(3, 2)
        self.assertEqual(solved(System(NAMES[:2], (((0, 0), 0),)), machine), (1, 1))
        for constant in (1, -1, 3, 9, -40):
            self.assertIsNone(solved(System(NAMES[:2], (((0, 0), constant),)), machine))

    def test_systems_that_only_other_integers_fulfil(self):
        machine = Machine.modulo(2, 1)
        self.assertIsNone(solved(System(NAMES[:2], (((1, 1), 0),)), machine))
        self.assertIsNone(solved(System(NAMES[:2], (((1, 1), 1),)), machine))
        self.assertEqual(solved(System(NAMES[:2], (((1, 1), 2),)), machine), (1, 1))
        self.assertIsNone(solved(System(NAMES[:2], (((2, 4), 7),)), machine))
        self.assertIsNone(solved(System(NAMES[:1], (((3,), -6),)), machine))
        self.assertEqual(solved(System(NAMES[:1], (((3,), 39),)), machine), (13,))

    def test_the_number_0_is_none(self):
        # The machine puts 0 and 1 into one box, so the carries alone would take (0, 1).
        machine = Machine(2, ((0, 0),), (0,))
        self.assertEqual(solved(System(NAMES[:2], (((1, -1), -1),)), machine), (1, 2))
        self.assertEqual(solved(System(NAMES[:3], (((1, 1, -1), 0),)), machine), (1, 1, 2))

    def test_states_that_are_not_reached(self):
        steps = ((0, 1), (1, 0), (2, 0), (3, 3))
        machine = Machine(2, steps, (0, 1, 5, 40))
        self.assertEqual(solved(System(NAMES[:3], (((1, 1, -1), 0),)), machine),
                         solved(System(NAMES[:3], (((1, 1, -1), 0),)), Machine(2, steps[:2], (0, 1))))

    def test_boxes_by_several_states(self):
        machine = Machine(3, ((0, 1, 2), (1, 2, 0), (2, 0, 1)), (7, 4, 7))
        for factors, constant in (((1, -1), 4), ((1, -3), 2), ((2, -5), 1), ((1, -2), 0), ((7, -9), -40)):
            system = System(NAMES[:2], ((factors, constant),))
            found = solved(system, machine)
            self.assertEqual(max(found), least_greatest(system, (), machine, 200))

    def test_limits(self):
        for system, machine, states, pairs in (
                (System(NAMES[:6], ()), Machine(7, ((0,) * 7,), (0,)), 1, ()),
                (System(NAMES[:6], ()), Machine.sums(2, 3), 3, (("x", "y"), ("z", "u"))),
                (System(NAMES[:6], (((1, 1, 1, 1, 1, 1), 39),)), Machine.sums(2, 2), 2, ()),
                (System(NAMES[:6], (((7, 7, 7, -7, -7, -7), 4),)), Machine.modulo(2, 1) * Machine.sums(2, 2), 2, ()),
                (System(NAMES[:5], (((3, 3, 3, -3, -3), 4),)), Machine.sums(2, 3), 3, ()),
                (System(NAMES[:3], (((9, 9, -9), 18),)), Machine.sums(2, 8), 8, ()),
                (System(NAMES[:3], (((1, 1, -9), 1),)), Machine.sums(2, 12), 12, ()),
                (System(NAMES[:1], (((9,), 40), ((9,), 40))), Machine.modulo(7, 3), 3, ()),
                (System(NAMES[:1], (((9,), -36),)), Machine.modulo(10, 12) * Machine.last(10), 360, ()),
                (System(NAMES[:1], (((9,), 36),)), Machine.modulo(10, 12) * Machine.last(10), 360, ()),
                (System(NAMES[:2], ()), Machine.first(7) * Machine.modulo(7, 3), 21, (("x", "y"),)),
                (System(NAMES[:2], (((1, -9), 5),)), Machine.last(5) * Machine.sums(5, 3), 15, ())):
            self.assertGreater(size_together(system, machine, states, pairs), 20000)
            self.assertLessEqual(size_together(system, machine, states, pairs), 200000)
            self.look(system, machine, pairs, {1: 2000, 2: 300, 3: 20, 5: 6, 6: 4}[len(system.names)])


if __name__ == "__main__":
    unittest.main()
