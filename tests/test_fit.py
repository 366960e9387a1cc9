"""Point 24: functions as sorters."""

import random
import unittest

from tests.oracles import NAMES, likely_system, parts_of, random_pairs, random_system
from tests.searches import is_solution, least_greatest
from tests.test_machines import random_machine
from whateverboxes.bars import Sorter
from whateverboxes.errors import BoxError, TooFar
from whateverboxes.fits import fit
from whateverboxes.machines import Machine
from whateverboxes.systems import System

SUM = System(NAMES[:3], (((1, 1, -1), 0),))
APART = System(NAMES[:3], (((1, -2, 1), 0),))


class Asked:
    """A function that keeps what it is asked."""

    def __init__(self, boxes):
        self.boxes = boxes
        self.numbers = []

    def __call__(self, number):
        self.numbers.append(number)
        return self.boxes[number - 1]


class FitTest(unittest.TestCase):
    def look(self, system, boxes, most, pairs=()):
        """Holds what is returned and asked against all solutions; tells whether there is one."""
        asked = Asked(boxes)
        best = least_greatest(system, pairs, lambda number: boxes[number - 1], most)
        if best is None:
            with self.assertRaises(TooFar) as held:
                fit(system, asked, most, unlike=pairs)
            self.assertEqual(held.exception.most, most)
            self.assertEqual(asked.numbers, list(range(1, most + 1)))
            return False
        found = fit(system, asked, most, unlike=pairs)
        self.assertTrue(is_solution(system, pairs, found))
        self.assertEqual(max(found), best)
        self.assertEqual(len({boxes[number - 1] for number in found}), 1)
        self.assertEqual(asked.numbers, list(range(1, best + 1)))
        return True

    def test_example(self):
        asked = Asked([number % 3 for number in range(1, 61)])
        self.assertEqual(fit(SUM, asked, 60), (3, 3, 6))
        self.assertEqual(asked.numbers, [1, 2, 3, 4, 5, 6])

    def test_arguments_by_name(self):
        self.assertEqual(fit(most=4, function=lambda number: 0, system=SUM), (1, 1, 2))
        self.assertIn(fit(unlike=(("x", "y"),), most=4, function=lambda number: 0, system=SUM), ((1, 2, 3), (2, 1, 3)))
        with self.assertRaises(TypeError):
            fit(SUM, lambda number: 0, 4, ())

    def test_no_argument_is_changed(self):
        pairs = (("x", "y"), ("y", "x"))
        before = parts_of(SUM)
        for _ in range(2):
            self.assertIn(fit(SUM, lambda number: number % 2, 9, unlike=pairs), ((2, 4, 6), (4, 2, 6)))
        self.assertEqual((parts_of(SUM), pairs), (before, (("x", "y"), ("y", "x"))))

    def test_random_functions(self):
        rng = random.Random(731)
        seen = {True: 0, False: 0}
        for _ in range(700):
            width = rng.randint(1, 4)
            make = rng.choice((random_system, likely_system))
            system = make(rng, width, rng.randint(1 if width == 4 else 0, 2), rng.randint(0, 2), rng.choice((1, 2, 4)))
            most = rng.randint(1, {1: 60, 2: 40, 3: 20, 4: 10}[width])
            many = rng.randint(1, 4)
            boxes = [rng.choice((0, -3, 10 ** 40, 7)[:many]) for _ in range(most)]
            pairs = random_pairs(rng, system.names, 3) if rng.randrange(2) else ()
            seen[self.look(system, boxes, most, pairs)] += 1
        self.assertGreater(min(seen.values()), 150)

    def test_all_names_in_one_number(self):
        # A number that is asked may stand for several names at once, together with older ones or alone.
        for width in range(1, 5):
            for factors in ((1, 1, -1, 1), (2, -1, -1, 0), (1, 2, 3, -3), (0, 1, 0, -1)):
                for constant in (-3, 0, 1, 4, 12):
                    system = System(NAMES[:width], ((factors[:width], constant),))
                    self.look(system, [0] * 12, 12)
                    self.look(system, [k % 2 for k in range(12)], 12)
                    self.look(system, list(range(12)), 12)

    def test_limits(self):
        rng = random.Random(732)
        for system, most in ((System(NAMES[:4], (((1, 1, 1, -1), 0),)), 60), (System(NAMES[:4], (((9, -9, 8, -8), 3),)), 60),
                             (System(NAMES[:3], (), (((1, 1, 1), 1, 2), ((1, 0, 0), 1, 12))), 60)):
            for many in (1, 3, 12, 60):
                boxes = [rng.randrange(many) for _ in range(most)]
                asked = Asked(boxes)
                try:
                    found = fit(system, asked, most)
                    self.assertTrue(is_solution(system, (), found))
                    self.assertEqual(asked.numbers, list(range(1, max(found) + 1)))
                except TooFar as error:
                    self.assertEqual(error.most, most)
                    self.assertEqual(asked.numbers, list(range(1, most + 1)))
        never = System(NAMES[:4], (((2, 2, 2, -2), 1),))
        self.look(never, [0] * 25, 25)
        with self.assertRaises(TooFar):
            fit(never, lambda number: 0, 60)

    def test_sorters_and_machines_are_functions(self):
        self.assertEqual(fit(SUM, Sorter.modulo(3), 60), (3, 3, 6))
        self.assertEqual(fit(SUM, Machine.modulo(2, 3), 60), (3, 3, 6))
        self.assertIn(fit(SUM, Machine.last(10).sorter(), 60), ((1, 10, 11), (10, 1, 11)))
        with self.assertRaises(TooFar):
            fit(System(NAMES[:3], (((1, 1, -3), 0),)), Sorter.digits(5), 60)
        rng = random.Random(733)
        for _ in range(40):
            machine = random_machine(rng)
            self.look(APART, [machine(number) for number in range(1, 26)], 25, (("x", "y"),))


class RaisedTest(unittest.TestCase):
    def test_what_the_function_raises_is_passed_on(self):
        class Own(Exception):
            pass

        for error in (Own("no"), ValueError(), KeyError(3), TooFar(3), BoxError(), ZeroDivisionError(), StopIteration(),
                      IndexError(), KeyboardInterrupt()):
            asked = []

            def function(number):
                asked.append(number)
                if number == 5:
                    raise error
                return number

            with self.assertRaises(type(error)) as held:
                fit(SUM, function, 60)
            self.assertIs(held.exception, error)
            self.assertEqual(asked, [1, 2, 3, 4, 5])

    def test_too_far(self):
        for most in (1, 4, 60):
            with self.assertRaises(TooFar) as held:
                fit(SUM, lambda number: number, most)
            self.assertEqual(held.exception.most, most)
            self.assertIsInstance(held.exception, BoxError)

    def test_the_greatest_number_that_may_be_asked(self):
        boxes = [0, 1, 2, 3, 4, 0, 1, 0]
        self.assertEqual(sorted(fit(APART, lambda number: boxes[number - 1], 7)), [1, 1, 1])
        for most in range(1, 9):
            for system, pairs in ((APART, (("x", "y"),)), (SUM, ())):
                best = least_greatest(system, pairs, lambda number: boxes[number - 1], 8)
                if best is None or best > most:
                    with self.assertRaises(TooFar):
                        fit(system, lambda number: boxes[number - 1], most, unlike=pairs)
                else:
                    self.assertEqual(max(fit(system, lambda number: boxes[number - 1], most, unlike=pairs)), best)


if __name__ == "__main__":
    unittest.main()
