"""Point 25: dealings; and the least most without a dealing of point 26."""

import random
import unittest

from tests.oracles import NAMES, likely_system, parts_of, random_pairs, random_system
from tests.searches import all_dealings, all_solutions, is_dealing
from whateverboxes.dealings import dealing, least_most, tree, tree_holds
from whateverboxes.systems import System

SUM = System(NAMES[:3], (((1, 1, -1), 0),))
APART = System(NAMES[:3], (((1, -2, 1), 0),))
STEPS = System(NAMES[:2], (((1, -1), -1),))
PAIR = (("x", "y"),)
EVERY = tuple((one, two) for k, one in enumerate(NAMES[:4]) for two in NAMES[k + 1:4])


def any_task(rng):
    """A system, boxes, most, start and pairs, for which all dealings are found fast enough."""
    width = rng.randint(1, 4)
    make = rng.choice((random_system, likely_system))
    system = make(rng, width, rng.randint(1 if width == 4 else 0, 2), rng.randint(0, 1), rng.choice((1, 2, 3)))
    boxes = rng.randint(1, 4)
    most = rng.randint(1, (0, 14, 9, 6, 5)[boxes])
    pairs = random_pairs(rng, system.names, 3) if rng.randrange(2) else ()
    start = tuple(rng.randrange(boxes) for _ in range(rng.randint(0, most))) if rng.randrange(2) else ()
    return system, boxes, most, start, pairs


class DealingTest(unittest.TestCase):
    def test_examples(self):
        self.assertIn(dealing(SUM, 2, 4), ((0, 1, 1, 0), (1, 0, 0, 1)))
        self.assertIsNone(dealing(SUM, 2, 5))
        self.assertEqual(dealing(SUM, 1, 1), (0,))
        self.assertIsNone(dealing(SUM, 1, 2))
        self.assertTrue(is_dealing(SUM, 3, 13, dealing(SUM, 3, 13)))
        self.assertIsNone(dealing(SUM, 3, 14))
        self.assertIn(dealing(STEPS, 2, 40), ((0, 1) * 20, (1, 0) * 20))
        self.assertEqual(dealing(STEPS, 2, 7, start=(1,)), (1, 0, 1, 0, 1, 0, 1))
        self.assertIsNone(dealing(APART, 4, 40))
        self.assertTrue(is_dealing(APART, 2, 8, dealing(APART, 2, 8, unlike=PAIR), (), PAIR))
        self.assertIsNone(dealing(APART, 2, 9, unlike=PAIR))

    def test_arguments_by_name(self):
        self.assertEqual(dealing(most=4, boxes=2, system=SUM, start=(1,)), (1, 0, 0, 1))
        self.assertEqual(dealing(most=3, unlike=PAIR, boxes=2, system=SUM, start=(0, 0)), (0, 0, 1))
        self.assertEqual(least_most(limit=20, boxes=2, system=SUM), 5)
        self.assertEqual(least_most(unlike=PAIR, limit=20, boxes=2, system=SUM), 9)
        for function in (dealing, tree):
            with self.assertRaises(TypeError):
                function(SUM, 2, 4, ())
        with self.assertRaises(TypeError):
            tree_holds(SUM, 2, 4, (), ())
        with self.assertRaises(TypeError):
            least_most(SUM, 2, 20, ())

    def test_no_argument_is_changed(self):
        before = parts_of(APART)
        start, pairs = (0, 1), (("x", "y"), ("y", "z"))
        self.assertEqual(dealing(APART, 2, 8, start=start, unlike=pairs), dealing(APART, 2, 8, start=start, unlike=pairs))
        self.assertEqual(least_most(APART, 2, 9, unlike=pairs), 9)
        self.assertEqual((parts_of(APART), start, pairs), (before, (0, 1), (("x", "y"), ("y", "z"))))

    def test_random_tasks(self):
        rng = random.Random(741)
        seen = {True: 0, False: 0}
        for _ in range(1200):
            system, boxes, most, start, pairs = any_task(rng)
            every = all_dealings(system, boxes, most, start, pairs)
            found = dealing(system, boxes, most, start=start, unlike=pairs)
            seen[found is None] += 1
            if found is None:
                self.assertEqual(every, [])
            else:
                self.assertIn(found, every)
                self.assertTrue(is_dealing(system, boxes, most, found, start, pairs))
        self.assertGreater(min(seen.values()), 200)

    def test_each_start(self):
        for system, boxes, most, pairs in ((SUM, 2, 5, ()), (APART, 2, 9, PAIR), (STEPS, 3, 4, ()), (SUM, 3, 6, PAIR)):
            every = all_dealings(system, boxes, most, (), pairs)
            starts = [()]
            for _ in range(min(most, 6) + 1):
                for start in starts:
                    found = dealing(system, boxes, most, start=start, unlike=pairs)
                    fitting = [one for one in every if one[:len(start)] == start]
                    self.assertTrue(found in fitting if fitting else found is None)
                starts = [start + (box,) for start in starts if len(start) < most for box in range(boxes)]

    def test_starts_that_give_a_box_a_solution_themselves(self):
        self.assertIsNone(dealing(SUM, 2, 2, start=(0, 0)))
        self.assertIsNone(dealing(SUM, 4, 40, start=(3, 1, 2, 0, 2, 2)))
        self.assertEqual(dealing(SUM, 2, 2, start=(0, 0), unlike=PAIR), (0, 0))
        whole = dealing(SUM, 2, 4)
        self.assertEqual(dealing(SUM, 2, 4, start=whole), whole)
        self.assertIsNone(dealing(SUM, 2, 4, start=(0, 1, 0, 0)))

    def test_limits(self):
        four = System(NAMES[:4], (((1, -2, 1, 0), 0), ((0, 1, -2, 1), 0)))
        for system, boxes, most, pairs in (
                (APART, 4, 40, PAIR), (four, 2, 34, PAIR), (four, 4, 40, EVERY), (STEPS, 4, 40, ()),
                (System(NAMES[:4], (((1, 1, 1, -1), 0),)), 3, 40, ()),
                (System(NAMES[:4], (((1, 1, -1, -1), 0),)), 4, 12, EVERY),
                (System(NAMES[:3], (), (((1, 1, 1), 1, 3), ((1, 0, 0), 1, 12))), 4, 40, ()),
                (System(NAMES[:4], (((2, 2, 2, -2), 1),)), 1, 40, ()),
                (System(NAMES[:4], (((9, -8, 7, -9), 40),)), 4, 40, EVERY)):
            found = dealing(system, boxes, most, unlike=pairs)
            self.assertIs(type(found), tuple)
            self.assertTrue(is_dealing(system, boxes, most, found, (), pairs))
            self.assertIsNone(tree(system, boxes, most, unlike=pairs))
            self.assertIsNone(least_most(system, boxes, most, unlike=pairs))

    def test_rows_and_rests_that_nothing_or_everything_fulfils(self):
        for boxes in range(1, 5):
            for most in (1, 3, 40):
                self.assertIsNone(dealing(System(NAMES[:3], ()), boxes, most))
                self.assertIsNone(dealing(System(NAMES[:4], (((0, 0, 0, 0), 0),)), boxes, most))
                for never in (System(NAMES[:4], (((0, 0, 0, 0), 1),)), System(NAMES[:3], (((1, 1, 1), 0),))):
                    found = dealing(never, boxes, most)
                    self.assertTrue(len(found) == most and set(found) <= set(range(boxes)))

    def test_one_name(self):
        five = System(("x",), (((2,), 10),))
        self.assertEqual(len(dealing(five, 3, 4)), 4)
        self.assertIsNone(dealing(five, 3, 5))
        self.assertEqual(least_most(five, 4, 40), 5)
        self.assertEqual(least_most(System(("x",), (), (((3,), 1, 7),)), 4, 40), 5)


class LeastMostTest(unittest.TestCase):
    def test_examples(self):
        self.assertEqual([least_most(SUM, boxes, 20) for boxes in (1, 2, 3)], [2, 5, 14])
        self.assertEqual([least_most(APART, boxes, 20, unlike=PAIR) for boxes in (1, 2)], [3, 9])
        self.assertEqual([least_most(APART, boxes, 20) for boxes in (1, 4)], [1, 1])

    def test_known_ones(self):
        # From the papers on Schur, Rado, Sidon and van der Waerden numbers.
        self.assertEqual(least_most(System(NAMES[:4], (((1, 1, 1, -1), 0),)), 2, 40), 11)
        self.assertEqual(least_most(System(NAMES[:3], (((1, 1, -1), -1),)), 2, 40), 9)
        self.assertEqual(least_most(System(NAMES[:4], (((1, -2, 1, 0), 0), ((0, 1, -2, 1), 0))), 2, 35, unlike=PAIR), 35)
        self.assertEqual(least_most(SUM, 2, 40, unlike=PAIR), 9)
        self.assertEqual(least_most(System(NAMES[:3], (((2, 1, -1), 0),)), 2, 40), 11)

    def test_the_limit_itself(self):
        for limit, expected in ((1, None), (2, None), (4, None), (5, 5), (6, 5), (40, 5)):
            self.assertEqual(least_most(SUM, 2, limit), expected)
        self.assertEqual(least_most(System(NAMES[:1], ()), 1, 1), 1)

    def test_random_tasks(self):
        rng = random.Random(742)
        seen = {True: 0, False: 0}
        for _ in range(700):
            system, boxes, most, _, pairs = any_task(rng)
            expected = next((one for one in range(1, most + 1) if not all_dealings(system, boxes, one, (), pairs)), None)
            self.assertEqual(least_most(system, boxes, most, unlike=pairs), expected)
            seen[expected is None] += 1
        self.assertGreater(min(seen.values()), 100)

    def test_systems_that_are_not_sure(self):
        # A bar needs boxes enough; with fewer ones there may be no dealing.
        three = System(NAMES[:3], (((1, 1, -3), 0),))
        self.assertEqual(least_most(three, 1, 20), 2)
        expected = next(most for most in range(1, 12) if not all_dealings(three, 2, most))
        self.assertEqual(least_most(three, 2, 20), expected)
        self.assertEqual([max(one) for one in all_solutions(three, (), 2)], [2, 2])
        self.assertIsNone(least_most(STEPS, 2, 40))
        self.assertEqual(least_most(STEPS, 1, 40), 2)


if __name__ == "__main__":
    unittest.main()
