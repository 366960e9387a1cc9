"""Point 23: closed sets, which show that no box of a machine holds a solution."""

import itertools
import random
import unittest

from tests.oracles import NAMES, odd_values, parts_of, random_system, spoiled
from tests.searches import (closure, first_stand, has_end, is_closed_set, is_end, least_greatest, next_stands,
                            random_kind, size_together)
from tests.test_solved import any_machine
from whateverboxes.fits import closed, closed_holds, solved
from whateverboxes.machines import Machine
from whateverboxes.systems import System

THREE = System(NAMES[:3], (((1, 1, -3), 0),))
STEP = System(NAMES[:2], (((1, -1), -1),))
EVEN = Machine.modulo(2, 2)
WIDE = Machine(2, ((0, 1), (1, 1), (2, 0), (1, 3)), (0, 0, 5, 7))


def cases(rng, count, size):
    """Systems and machines that have a closed set."""
    found = []
    while len(found) < count:
        width = rng.choice((1, 2, 2, 3))
        system = random_system(rng, width, rng.randint(1, 2), 0, rng.choice((1, 2, 3)))
        machine, states = any_machine(rng, rng.choice((2, 2, 3, 4, 10)))
        if size_together(system, machine, states) <= size and not has_end(system, machine, ()):
            found.append((system, machine))
    return found


class ClosedTest(unittest.TestCase):
    def test_examples(self):
        made = closed(THREE, Machine.last(5))
        self.assertTrue(is_closed_set(THREE, Machine.last(5), made))
        self.assertIs(closed_holds(THREE, Machine.last(5), made), True)
        self.assertIsNone(closed(THREE, Machine.last(3)))
        self.assertTrue(is_closed_set(STEP, EVEN, closed(STEP, EVEN)))
        self.assertIsNone(closed(STEP, Machine.modulo(2, 1)))

    def test_arguments_by_name(self):
        made = closed(machine=EVEN, system=STEP)
        self.assertTrue(is_closed_set(STEP, EVEN, made))
        self.assertIs(closed_holds(thing=made, machine=EVEN, system=STEP), True)
        self.assertIs(closed_holds(thing=made[1:], machine=EVEN, system=STEP), False)

    def test_no_argument_is_changed(self):
        before = parts_of(STEP), EVEN.base, EVEN.steps, EVEN.boxes
        made = closed(STEP, EVEN)
        self.assertEqual(closed(STEP, EVEN), made)
        self.assertIs(closed_holds(STEP, EVEN, list(made)), False)
        thing = [[1, (2, [3])], {"a": [made]}]
        self.assertIs(closed_holds(STEP, EVEN, thing), False)
        self.assertEqual(thing, [[1, (2, [3])], {"a": [made]}])
        self.assertEqual(before, (parts_of(STEP), EVEN.base, EVEN.steps, EVEN.boxes))

    def test_closed_or_solved(self):
        rng = random.Random(711)
        seen = {True: 0, False: 0}
        for _ in range(900):
            width = rng.choice((1, 2, 2, 3, 4))
            system = random_system(rng, width, rng.randint(0, 2), 0, rng.choice((1, 2, 3, 9)))
            machine, states = any_machine(rng, rng.choice((2, 2, 3, 4, 5, 10)))
            if size_together(system, machine, states) > 30000:
                continue
            made = closed(system, machine)
            seen[made is None] += 1
            self.assertIs(made is None, solved(system, machine) is not None)
            if made is None:
                self.assertTrue(has_end(system, machine, ()))
            else:
                self.assertTrue(is_closed_set(system, machine, made))
                self.assertIs(closed_holds(system, machine, made), True)
                self.assertIsNone(least_greatest(system, (), machine, {1: 60, 2: 20, 3: 8, 4: 5}[width]))
        self.assertGreater(min(seen.values()), 150)

    def test_limits(self):
        for system, machine, states in (
                (System(NAMES[:6], (((1, 1, 1, 1, 1, 1), 39),)), Machine.sums(2, 2), 2),
                (System(NAMES[:6], (((7, 7, 7, -7, -7, -7), 4),)), Machine.sums(2, 2), 2),
                (System(NAMES[:5], (((3, 3, 3, -3, -3), 4),)), Machine.sums(2, 3), 3),
                (System(NAMES[:3], (((9, 9, -9), 40),)), Machine.sums(2, 7), 7),
                (System(NAMES[:1], (((9,), -36),)), Machine.modulo(10, 12) * Machine.last(10), 360),
                (System(NAMES[:2], (((1, -1), 1),)), Machine.last(5) * Machine.sums(5, 2) * Machine.sums(5, 2), 20)):
            self.assertGreater(size_together(system, machine, states), 20000)
            self.assertLessEqual(size_together(system, machine, states), 200000)
            made = closed(system, machine)
            self.assertIs(made is None, solved(system, machine) is not None)
            if made is not None:
                self.assertIs(closed_holds(system, machine, made), True)
                self.assertIs(closed_holds(system, machine, made[:-1]), False)
                self.assertIs(closed_holds(system, machine, made[1:]), False)

    def test_systems_without_rows(self):
        for width in range(1, 7):
            self.assertIsNone(closed(System(NAMES[:width], ()), Machine.last(2)))
        self.assertIsNone(closed(System(NAMES[:6], ()), Machine(7, ((0,) * 7,), (0,))))
        self.assertIs(closed_holds(System(NAMES[:1], ()), Machine.last(2), (((), (0,), (0,)),)), False)
        self.assertIs(closed_holds(System(NAMES[:1], ()), Machine.last(2), ()), False)

    def test_rows_without_terms(self):
        system = System(NAMES[:2], (((0, 0), 6),))
        made = closed(system, EVEN)
        self.assertEqual(sorted({carries for carries, _, _ in made}), [(-6,), (-3,)])
        self.assertIs(closed_holds(system, EVEN, made), True)


class ClosedHoldsTest(unittest.TestCase):
    def look(self, system, machine, thing, right):
        told = closed_holds(system, machine, thing)
        self.assertIs(type(told), bool)
        self.assertIs(told, right)

    def test_stand_by_stand(self):
        for system, machine in cases(random.Random(721), 40, 2000):
            made = closed(system, machine)
            for k in range(len(made)):
                for thing in (made[:k] + made[k + 1:], made[:k] + made[k:k + 1] + made[k:],
                              made[:k] + made[k + 1:] + made[k:k + 1]):
                    self.look(system, machine, thing, is_closed_set(system, machine, thing))
            self.look(system, machine, made[::-1], len(made) == 1)
            self.look(system, machine, list(made), False)
            self.look(system, machine, made + (), True)

    def test_greater_closed_sets(self):
        # Any stands may be added, if no end is among what they lead to; their carries may be any integers.
        rng = random.Random(722)
        seen = {True: 0, False: 0}
        for system, machine in cases(rng, 25, 1500):
            made = closed(system, machine)
            for high in (3, 3, 60, 10 ** 50):
                stand = (tuple(rng.randint(-high, high) for _ in system.rows),
                         tuple(rng.randrange(len(machine.steps)) for _ in system.names),
                         tuple(rng.randrange(2) for _ in system.names))
                more = closure(system, machine, [stand])
                if len(more) > 4000:
                    continue
                thing = tuple(sorted({*made, *more}))
                right = not any(is_end(machine, one) for one in more)
                seen[right] += 1
                self.look(system, machine, thing, right)
                self.look(system, machine, tuple(sorted(more)), right and made[0] in more and set(made) <= set(more))
                self.look(system, machine, thing[:-1], is_closed_set(system, machine, thing[:-1]))
        self.assertGreater(min(seen.values()), 12)

    def test_all_stands_but_the_ends(self):
        # An end is left out, so what leads to it must be left out, too, and so on.
        system = System(NAMES[:2], (((1, -1), -1),))
        stands = [((carry,), (one, two), (a, b)) for carry in range(-2, 3) for one in range(4) for two in range(4)
                  for a in (0, 1) for b in (0, 1)]
        for machine in (EVEN, Machine.sums(2, 4), WIDE):
            kept = {one for one in stands if max(one[1]) < len(machine.steps) and not is_end(machine, one)}
            while True:
                left = {one for one in kept if all(after in kept for _, after in next_stands(system, machine, one))}
                if left == kept:
                    break
                kept = left
            thing = tuple(sorted(kept))
            right = first_stand(system) in kept
            self.assertIs(right, machine is EVEN)
            self.look(system, machine, thing, right)

    def test_what_is_no_closed_set(self):
        for thing in odd_values():
            self.look(THREE, Machine.last(5), thing, False)
        made = closed(STEP, EVEN)
        for value in odd_values():
            for k in (0, len(made) - 1):
                self.look(STEP, EVEN, made[:k] + (value,) + made[k + 1:], False)
                for part in range(3):
                    for one in (value, (value,) * len(made[k][part])):
                        stand = made[k][:part] + (one,) + made[k][part + 1:]
                        thing = made[:k] + (stand,) + made[k + 1:]
                        self.look(STEP, EVEN, thing, is_closed_set(STEP, EVEN, thing))

    def test_bools_are_no_integers(self):
        made = closed(STEP, EVEN)
        for k, (carries, states, begun) in enumerate(made):
            for stand in ((tuple(map(bool, carries)), states, begun), (carries, tuple(map(bool, states)), begun),
                          (carries, states, tuple(map(bool, begun))), (carries, states, begun[:1] + (bool(begun[1]),)),
                          [carries, states, begun], (list(carries), states, begun), (carries, states, begun, ())):
                self.look(STEP, EVEN, made[:k] + (stand,) + made[k + 1:], False)

    def test_parts_out_of_range(self):
        made = closed(STEP, EVEN)
        last = made[-1]
        for stand in ((last[0], (len(EVEN.steps),) * 2, last[2]), (last[0], (-1, 0), last[2]), (last[0], last[1], (2, 2)),
                      (last[0], last[1], (-1, 0)), (last[0] * 2, last[1], last[2]), (last[0], last[1] * 2, last[2]),
                      ((9,), last[1], last[2] * 2), ((), last[1], last[2])):
            self.look(STEP, EVEN, tuple(sorted(made + (stand,))), False)

    def test_great_sets(self):
        # x is -1, so the last carry is 1 for ever; all carries from 1 on lead to carries from 1 on.
        system, machine = System(NAMES, (((1, 0, 0, 0, 0, 0), -1),)), Machine(6, ((0,) * 6,), (0,))
        self.assertLessEqual(size_together(system, machine, 1), 200000)
        thing = tuple(((carry,), (0,) * 6, begun) for carry in range(1, 120)
                      for begun in itertools.product((0, 1), repeat=6))
        self.look(system, machine, thing, True)
        self.look(system, machine, thing[64:], False)
        self.look(system, machine, thing[1:], False)
        self.look(system, machine, thing[:100] + thing[101:], False)
        self.look(system, machine, (((0,), (0,) * 6, (0,) * 6),) + thing, False)

    def test_states_below_0(self):
        # Python would take them for states from the end on.
        for system, machine in cases(random.Random(726), 20, 300):
            made = closed(system, machine)
            count = len(machine.steps)
            for k, (carries, states, begun) in enumerate(made):
                stand = carries, tuple(state - count for state in states), begun
                self.look(system, machine, tuple(sorted(made[:k] + (stand,) + made[k + 1:])), False)
            for low in (1, 2, count):
                for state in range(low):
                    more = {(carries, (-1 - state,) + states[1:], begun) for carries, states, begun in made}
                    self.look(system, machine, tuple(sorted({*made, *more})), False)
                    self.look(system, machine, tuple(sorted(made + tuple(more)[:1])), False)

    def test_states_that_are_not_reached(self):
        # The state 2 leads to states with other boxes, and 3 to itself; both are allowed in a closed set.
        system = System(NAMES[:1], (((2,), -7),))
        made = closed(system, WIDE)
        self.assertEqual({state for _, (state,), _ in made} - {0, 1}, set())
        for carry in range(-12, 13):
            for state in range(4):
                for begun in (0, 1):
                    more = closure(system, WIDE, [((carry,), (state,), (begun,))])
                    thing = tuple(sorted({*made, *more}))
                    self.look(system, WIDE, thing, is_closed_set(system, WIDE, thing))

    def test_spoiled_sets(self):
        rng = random.Random(723)
        seen = {True: 0, False: 0}
        for system, machine in cases(rng, 30, 1000):
            made = closed(system, machine)
            for _ in range(40):
                thing = spoiled(rng, made)
                right = is_closed_set(system, machine, thing)
                seen[right] += 1
                self.look(system, machine, thing, right)
        self.assertGreater(seen[False], 800)

    def test_sets_of_other_systems_and_machines(self):
        rng = random.Random(724)
        made = [(system, machine, closed(system, machine)) for system, machine in cases(rng, 14, 800)]
        for system, machine, _ in made:
            for _, _, thing in made:
                self.look(system, machine, thing, is_closed_set(system, machine, thing))

    def test_where_a_box_holds_a_solution(self):
        rng = random.Random(725)
        count = 0
        while count < 60:
            system = random_system(rng, rng.choice((1, 2)), rng.randint(0, 1), 0, 2)
            machine, states = random_kind(rng, 2)
            if size_together(system, machine, states) > 3000 or not has_end(system, machine, ()):
                continue
            count += 1
            every = closure(system, machine, [first_stand(system)])
            self.look(system, machine, tuple(sorted(every)), False)
            self.look(system, machine, tuple(sorted(one for one in every if not is_end(machine, one))), False)


if __name__ == "__main__":
    unittest.main()
