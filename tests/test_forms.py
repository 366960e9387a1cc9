"""Points 9, 10 and 11: alike integers, reached names, and forms."""

import math
import random
import unittest

from tests.oracles import (NAMES, alike_numbers, is_form, likely_system, parts_of, put_otherwise, random_system,
                           reached_indexes, reached_steps, with_names_exchanged)
from whateverboxes.errors import NoForm
from whateverboxes.forms import alike, form, form_numbers, reached
from whateverboxes.systems import System


def read(*lines):
    return System.read("\n".join(lines))


class AlikeTest(unittest.TestCase):
    def test_examples(self):
        self.assertEqual(alike(read("names x y z", "x + y - z = 0")), (0,))
        self.assertEqual(alike(read("names x y", "2 x - y = -3")), (-3,))
        self.assertEqual(alike(read("names x y", "x - y = 0", "x = 1 mod 3")), (1, 3))
        self.assertEqual(alike(read("names x y", "x - y = -1")), ())
        self.assertEqual(alike(read("names x y z", "x + y - z = 2")), (2,))
        self.assertEqual(alike(system=read("names x", "3 x = 7")), ())

    def test_edges(self):
        self.assertEqual(alike(System(("x",), ())), (1, 1))
        self.assertEqual(alike(System(("x", "y"), (((0, 0), 0),))), (1, 1))
        self.assertEqual(alike(System(("x", "y"), (((0, 0), 1),))), ())
        self.assertEqual(alike(System(("x", "y"), (((0, 0), 0),), (((0, 0), 4, 4),))), (1, 1))
        self.assertEqual(alike(System(("x", "y"), (), (((0, 0), 5, 4),))), ())
        self.assertEqual(alike(System(("x",), (), (((1,), 0, 5),))), (5, 5))
        self.assertEqual(alike(System(("x",), (), (((1,), -4, 5),))), (1, 5))
        self.assertEqual(alike(System(("x",), (), (((2,), 2, 6),))), (1, 3))
        self.assertEqual(alike(System(("x",), (), (((2,), 1, 6),))), ())
        self.assertEqual(alike(System(("x",), (), (((1,), 1, 4), ((1,), 3, 6)))), (9, 12))
        self.assertEqual(alike(System(("x",), (), (((1,), 1, 4), ((1,), 2, 6)))), ())
        self.assertEqual(alike(System(("x", "y"), (((1, 1), -6),), (((1, 0), 1, 4),))), (-3,))
        self.assertEqual(alike(System(("x", "y"), (((1, 1), -6),), (((1, 0), 2, 4),))), ())
        self.assertEqual(alike(System(("x", "y"), (((1, 1), 4), ((3, 0), 6)))), (2,))
        self.assertEqual(alike(System(("x", "y"), (((1, 1), 4), ((3, 0), 9)))), ())
        self.assertEqual(alike(System(NAMES, (((1, -1, 1, -1, 1, -1), 0),), (((9, 9, 9, 9, 9, 9), 6, 12),))), (1, 2))

    def test_many_by_trying(self):
        rng = random.Random(101)
        seen = {0: 0, 1: 0, 2: 0}
        for k in range(900):
            make = likely_system if k % 3 else random_system
            system = make(rng, rng.randint(1, 6), rng.randint(0, 3), rng.randint(0, 3))
            many = math.prod(modulus for _, _, modulus in system.rests)
            found = alike_numbers(system, -100 - many, 100 + 2 * many)
            told = alike(system)
            self.assertIs(type(told), tuple)
            self.assertTrue(all(type(entry) is int for entry in told))
            if len(found) > 1:
                least = next(number for number in found if number >= 1)
                self.assertEqual(told, (least, found[1] - found[0]))
            else:
                self.assertEqual(told, tuple(found))
            seen[len(told)] += 1
        self.assertGreater(min(seen.values()), 150)

    def test_put_otherwise(self):
        rng = random.Random(102)
        for _ in range(200):
            system = likely_system(rng, rng.randint(1, 5), rng.randint(0, 3), rng.randint(0, 3))
            self.assertEqual(alike(put_otherwise(rng, system)), alike(system))

    def test_great_constants(self):
        for number in (10 ** 30, -10 ** 30, 7, -7):
            self.assertEqual(alike(System(("x", "y"), (((2, 1), 3 * number),))), (number,))
            self.assertEqual(alike(System(("x", "y"), (((2, 1), 3 * number + 1),))), ())


class ReachedTest(unittest.TestCase):
    def test_examples(self):
        self.assertEqual(reached(read("names x y z", "x + y - z = 0")), ("x", "y", "z"))
        self.assertEqual(reached(read("names x y z", "x + y - 3 z = 0")), ())
        self.assertEqual(reached(system=read("names x y z", "x - y + 3 z = 5")), ("x", "y", "z"))
        self.assertEqual(reached(read("names x y z u", "x - y = 0", "z + u = 0")), ("x", "y"))
        self.assertEqual(reached(read("names u x z y", "x - y = 0", "u + z = 0")), ("x", "y"))
        self.assertEqual(reached(read("names z y x", "z + 2 x = 0")), ("y",))
        self.assertEqual(reached(System(("x", "y"), ())), ("x", "y"))
        self.assertEqual(reached(System(("x",), (((2,), 4),))), ())
        self.assertEqual(reached(System(("x",), (((0,), 4),), (((1,), 1, 7),))), ("x",))

    def test_many_by_going_from_set_to_set(self):
        rng = random.Random(111)
        sizes = {}
        for _ in range(400):
            width = rng.randint(1, 5)
            system = likely_system(rng, width, rng.randint(0, 3), rng.randint(0, 2))
            found = reached_indexes(system)
            self.assertEqual(reached(system), tuple(system.names[k] for k in found))
            kind = "none" if not found else "all" if len(found) == width else "some"
            sizes[kind] = sizes.get(kind, 0) + 1
        self.assertGreater(min(sizes.values()), 30)
        self.assertEqual(len(sizes), 3)

    def test_six_names(self):
        rng = random.Random(112)
        sizes = {}
        for _ in range(150):
            system = likely_system(rng, 6, rng.randint(1, 4), rng.randint(0, 1))
            found = reached_indexes(system)
            self.assertEqual(reached(system), tuple(system.names[k] for k in found))
            sizes[len(found)] = sizes.get(len(found), 0) + 1
        self.assertGreaterEqual(len(sizes), 5)

    def test_what_does_not_matter(self):
        rng = random.Random(113)
        for _ in range(150):
            system = likely_system(rng, rng.randint(1, 5), rng.randint(1, 3), 2)
            told = reached(system)
            self.assertEqual(reached(put_otherwise(rng, system)), told)
            rows = tuple((factors, constant + rng.randint(-40, 40)) for factors, constant in system.rows)
            self.assertEqual(reached(System(system.names, rows, ())), told)
            turned = with_names_exchanged(rng, System(system.names, rows, ()))
            self.assertEqual(reached(turned), tuple(name for name in turned.names if name in told))


class FormTest(unittest.TestCase):
    def check(self, system):
        """How many moves the form has, or None if there is none; both are looked up set by set."""
        before = parts_of(system)
        steps = reached_steps(system.rows, len(system.names))
        everything = frozenset(range(len(system.names)))
        try:
            made = form(system)
        except NoForm as error:
            self.assertNotIn(everything, steps)
            self.assertEqual(error.reached, tuple(system.names[k] for k in sorted(max(steps, key=len))))
            made = None
        else:
            self.assertTrue(is_form(system, made), (str(system), made))
            self.assertEqual(len(made[2]), steps[everything])
        self.assertEqual(parts_of(system), before)
        return len(made[2]) if made else None

    def test_examples(self):
        self.assertEqual(self.check(read("names x y z", "x + y - z = 0")), 2)
        self.assertEqual(self.check(read("names x y", "x - y = 5")), 1)
        self.assertEqual(self.check(System(("x",), ())), 1)
        self.assertEqual(self.check(System(NAMES, ())), 1)
        self.assertEqual(self.check(System(NAMES, (), (((1, 2, 3, 4, 5, 6), 1, 12), ((1, 0, 0, 0, 0, 1), 1, 7)))), 1)
        self.assertEqual(self.check(read("names x y z", "x + y - 3 z = 0")), None)
        self.assertEqual(self.check(read("names x y z u", "x - y = 0", "z + u = 0")), None)
        self.assertEqual(self.check(read("names x y z", "2 x - 2 y + 3 z = 7", "x = 1 mod 5", "z = 1 mod 4")), 2)
        self.assertEqual(self.check(read("names x y z u v w", "x + y - z = 0", "x + u - v = 0", "z + v - w = 1")), 3)
        self.assertEqual(self.check(read("names x y z u v w", "x + y - z = 0", "2 y + u - v = 0", "x + 5 u + w = 1")),
                         None)

    def test_no_form_is_an_error_with_the_reached_names(self):
        with self.assertRaises(NoForm) as held:
            form(system=read("names x y z u", "z + u = 0", "x - y = 0"))
        self.assertEqual(held.exception.reached, ("x", "y"))
        with self.assertRaises(NoForm) as held:
            form(System(("x",), (((1,), 0),)))
        self.assertEqual(held.exception.reached, ())

    def test_many(self):
        rng = random.Random(121)
        seen = {}
        for _ in range(500):
            told = self.check(likely_system(rng, rng.randint(1, 5), rng.randint(0, 3), rng.randint(0, 2)))
            seen[told] = seen.get(told, 0) + 1
        self.assertGreater(min(seen[None], seen[1], seen[2]), 40)

    def test_six_names_with_several_sets_that_add_up_to_0(self):
        rng = random.Random(122)
        seen = {}
        for factors in ((1, -1, 2, -2, 3, -3), (1, 2, 3, -3, -2, -1), (1, 2, 4, -7, 5, 9), (2, -1, -1, 5, 7, -3),
                        (0, 1, 0, -1, 5, 0), (9, -4, -5, 1, 1, 1), (3, 5, -8, 4, 4, -9), (1, 1, 1, 1, 1, -5)):
            self.assertIsNotNone(self.check(System(NAMES, ((factors, 3),))))
        for _ in range(60):
            rows = []
            for _ in range(rng.randint(1, 3)):
                factors = [rng.choice((-2, -1, 0, 0, 1, 2)) for _ in range(6)]
                factors[rng.randrange(6)] -= sum(factors[k] for k in rng.sample(range(6), rng.randint(2, 5)))
                rows.append((tuple(factors), rng.randint(-5, 5)))
            told = self.check(System(NAMES, tuple(rows)))
            seen[told] = seen.get(told, 0) + 1
        self.assertGreaterEqual(len(seen), 4)

    def test_long_chains(self):
        chain = System(NAMES, (((1, -1, 2, 0, 0, 0), 0), ((0, 0, 1, -1, 2, 0), 0), ((0, 0, 0, 0, 1, -1), 0)))
        self.assertEqual(self.check(chain), 3)
        turned = System(NAMES, (((1, -1, 2, 0, 0, 0), 0), ((0, 0, 1, -1, 2, 0), 0), ((0, 0, 0, 0, 1, 2), 0)))
        self.assertIsNone(self.check(turned))
        rng = random.Random(124)
        seen = {}
        for _ in range(80):
            # A pair of names for each row, bound to names of later pairs, so that these must come after it.
            order = rng.sample(range(6), 6)
            rows = []
            for k in (0, 2, 4):
                factors = [0] * 6
                factors[order[k]], factors[order[k + 1]] = 1, -1
                for later in order[k + 2:]:
                    factors[later] = rng.randint(-3, 3)
                rows.append((tuple(factors), 1))
            rests = (((1, 1, 0, 0, 2, 0), 1, 4),) if rng.randrange(2) else ()
            told = self.check(put_otherwise(rng, System(NAMES, tuple(rows), rests)))
            seen[told] = seen.get(told, 0) + 1
        self.assertGreater(seen[3], 20)
        self.assertGreater(seen[2], 5)

    def test_rests_count(self):
        rng = random.Random(123)
        for _ in range(150):
            width = rng.randint(1, 4)
            rests = tuple((tuple(rng.randint(-9, 9) for _ in range(width)), rng.randint(-40, 40), rng.randint(2, 12))
                          for _ in range(3))
            self.assertEqual(self.check(System(NAMES[:width], (), rests)), 1)
        system = System(("x", "y", "z"), (((1, 1, -1), 0),), (((1, 0, 0), 0, 8), ((0, 1, 0), 0, 9), ((0, 0, 1), 0, 5)))
        self.assertEqual(self.check(system), 2)
        self.assertEqual(form(system)[0] % 360, 0)


class FormNumbersTest(unittest.TestCase):
    def test_examples(self):
        made = (1, (0, 1, 0), ((1, 0, 1), (0, 1, 1)))
        self.assertEqual(form_numbers(made, 5, 3), (5, 3, 8))
        self.assertEqual(form_numbers(made, 0, 0), (0, 0, 0))
        self.assertEqual(form_numbers(made, -5, 3), (-5, 3, -2))
        self.assertEqual(form_numbers((2, (0,), ((2,),)), 10 ** 29 + 1), (2 * 10 ** 29 + 2,))

    def test_many(self):
        rng = random.Random(131)
        for _ in range(200):
            width, many = rng.randint(1, 6), rng.randint(1, 12)
            moves = tuple(tuple(rng.randint(-10 ** 6, 10 ** 6) for _ in range(width)) for _ in range(many))
            numbers = [rng.choice((rng.randint(-9, 9), rng.randint(-10 ** 30, 10 ** 30))) for _ in range(many)]
            told = form_numbers((7, (0,) * width, moves), *numbers)
            self.assertIs(type(told), tuple)
            for k in range(width):
                total = 0
                for number, move in zip(numbers, moves):
                    total += number * move[k]
                self.assertEqual(told[k], total)
            self.assertEqual(len(told), width)

    def test_the_numbers_are_moves(self):
        rng = random.Random(132)
        count = 0
        for _ in range(200):
            system = likely_system(rng, rng.randint(1, 5), rng.randint(0, 2), rng.randint(0, 2))
            try:
                made = form(system)
            except NoForm:
                continue
            count += 1
            numbers = form_numbers(made, *[rng.randint(-10 ** 30, 10 ** 30) for _ in made[2]])
            plain = System(system.names, tuple((factors, 0) for factors, _ in system.rows),
                           tuple((factors, 0, modulus) for factors, _, modulus in system.rests))
            self.assertTrue(plain.fulfils(numbers))
        self.assertGreater(count, 80)


if __name__ == "__main__":
    unittest.main()
