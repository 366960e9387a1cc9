"""Point 26: trees, which show that there is no dealing."""

import random
import unittest

from tests.oracles import NAMES, likely_system, nested, odd_values, parts_of, random_pairs, random_system, spoiled
from tests.searches import all_dealings, dealt_by, is_tree, random_tree
from tests.test_dealings import APART, EVERY, PAIR, SUM, any_task
from whateverboxes.dealings import dealing, tree, tree_holds
from whateverboxes.systems import System

LEAF = ("solved", (1, 1, 2))
ALWAYS = System(NAMES[:2], (((1, -1), 0),))


def size_of(thing):
    """The number of nodes of a tree."""
    return 1 + (sum(size_of(branch) for branch in thing[2]) if thing[0] == "deal" else 0)


def depth_of(thing):
    return 1 + max(depth_of(branch) for branch in thing[2]) if thing[0] == "deal" else 0


class TreeTest(unittest.TestCase):
    def test_examples(self):
        for boxes, most in ((1, 2), (2, 5), (3, 14)):
            made = tree(SUM, boxes, most)
            self.assertTrue(is_tree(SUM, boxes, most, made, {}))
            self.assertIsNone(tree(SUM, boxes, most - 1))
        self.assertTrue(is_tree(APART, 2, 9, tree(APART, 2, 9, unlike=PAIR), {}, PAIR))
        self.assertIsNone(tree(APART, 2, 8, unlike=PAIR))

    def test_arguments_by_name(self):
        made = tree(most=5, boxes=2, system=SUM, start=(0,), unlike=())
        self.assertTrue(is_tree(SUM, 2, 5, made, {1: 0}))
        self.assertIs(tree_holds(thing=made, most=5, boxes=2, system=SUM, start=(0,), unlike=()), True)
        self.assertIs(tree_holds(thing=made, most=5, boxes=2, system=SUM), False)
        made = tree(unlike=PAIR, most=9, boxes=2, system=APART)
        self.assertIs(tree_holds(unlike=PAIR, thing=made, most=9, boxes=2, system=APART), True)

    def test_no_argument_is_changed(self):
        before = parts_of(APART)
        start, pairs = (0, 1), (("x", "y"), ("y", "z"))
        made = tree(APART, 2, 9, start=start, unlike=pairs)
        self.assertEqual(tree(APART, 2, 9, start=start, unlike=pairs), made)
        self.assertIs(tree_holds(APART, 2, 9, made, start=start, unlike=pairs), True)
        thing = ["deal", 1, [("solved", [1, 1, 2])], {"a": 1}]
        self.assertIs(tree_holds(APART, 2, 9, thing, start=start, unlike=pairs), False)
        self.assertEqual(thing, ["deal", 1, [("solved", [1, 1, 2])], {"a": 1}])
        self.assertEqual((parts_of(APART), start, pairs), (before, (0, 1), (("x", "y"), ("y", "z"))))

    def test_a_tree_or_a_dealing(self):
        rng = random.Random(751)
        seen = {True: 0, False: 0}
        for _ in range(1000):
            system, boxes, most, start, pairs = any_task(rng)
            made = tree(system, boxes, most, start=start, unlike=pairs)
            seen[made is None] += 1
            self.assertIs(made is None, dealing(system, boxes, most, start=start, unlike=pairs) is not None)
            self.assertIs(made is None, all_dealings(system, boxes, most, start, pairs) != [])
            if made is not None:
                self.assertTrue(is_tree(system, boxes, most, made, dealt_by(start), pairs))
                self.assertIs(tree_holds(system, boxes, most, made, start=start, unlike=pairs), True)
                if most < 30:
                    self.assertIs(tree_holds(system, boxes, most + 1, made, start=start, unlike=pairs), True)
                self.assertIs(tree_holds(system, boxes + 1, most, made, start=start, unlike=pairs), made[0] == "solved")
        self.assertGreater(min(seen.values()), 150)

    def test_starts_that_give_a_box_a_solution_themselves(self):
        made = tree(SUM, 4, 9, start=(3, 1, 2, 0, 2, 2, 0, 1, 2))
        self.assertTrue(is_tree(SUM, 4, 9, made, dealt_by((3, 1, 2, 0, 2, 2, 0, 1, 2))))
        made = tree(SUM, 2, 40, start=(0, 0, 1))
        self.assertTrue(is_tree(SUM, 2, 40, made, {1: 0, 2: 0, 3: 1}))

    def test_limits(self):
        four = System(NAMES[:4], (((1, 1, 1, -1), 0),))
        sums = System(NAMES[:4], (((1, 1, -1, -1), 0),))
        for system, boxes, most, start, pairs in (
                (SUM, 3, 14, (), ()), (SUM, 3, 40, (0, 1), ()), (four, 2, 11, (), ()), (sums, 2, 40, (), EVERY),
                (four, 3, 40, (0, 1, 1, 0, 2, 2, 1, 2, 0, 1, 0, 2), ()), (APART, 3, 27, (0, 0, 1, 0, 0, 1, 1, 2), PAIR),
                (System(NAMES[:4], (((0, 0, 0, 0), 0),)), 2, 40, (), EVERY),
                (System(NAMES[:4], (((1, -2, 1, 0), 0), ((0, 1, -2, 1), 0))), 2, 35, (), PAIR)):
            made = tree(system, boxes, most, start=start, unlike=pairs)
            self.assertTrue(is_tree(system, boxes, most, made, dealt_by(start), pairs))
            self.assertIs(tree_holds(system, boxes, most, made, start=start, unlike=pairs), True)
            self.assertIs(tree_holds(system, boxes, most, made, start=start + (0,), unlike=pairs),
                          is_tree(system, boxes, most, made, dealt_by(start + (0,)), pairs))


class TreeHoldsTest(unittest.TestCase):
    def look(self, system, boxes, most, thing, right, start=(), pairs=()):
        told = tree_holds(system, boxes, most, thing, start=start, unlike=pairs)
        self.assertIs(type(told), bool)
        self.assertIs(told, right)

    def test_leaves(self):
        for numbers, start, right in (((1, 1, 2), (0, 0), True), ((1, 1, 2), (0, 1), False), ((1, 1, 2), (0,), False),
                                      ((1, 2, 3), (0, 0), False), ((1, 2, 3), (1, 1, 1), True), ((), (0, 0), False),
                                      ((2, 1, 3), (1, 1, 1), True), ((1, 1, 3), (0, 0, 0), False),
                                      ((1, 1), (0, 0), False), ([1, 1, 2], (0, 0), False), ((True, 1, 2), (0, 0), False),
                                      ((0, 1, 1), (0, 0), False), ((-1, 2, 1), (0, 0), False), (None, (0, 0), False),
                                      ((1, 1, 2, 2), (0, 0), False), (((1,), 1, 2), (0, 0), False)):
            self.look(SUM, 2, 9, ("solved", numbers), right, start)
        self.look(SUM, 2, 9, ("solved", (1, 1, 2)), False, (0, 0), PAIR)
        self.look(SUM, 2, 9, ("solved", (1, 2, 3)), True, (0, 0, 0), PAIR)
        self.look(SUM, 2, 9, ("solved", (2, 2, 4)), False, (0, 0, 1, 0), (("x", "z"), ("y", "x")))
        self.look(SUM, 2, 9, ("solved", (2, 2, 4)), True, (0, 0, 1, 0), (("x", "z"), ("z", "y")))

    def test_nodes(self):
        right = ("deal", 1, (("deal", 2, (LEAF, ("solved", (2, 2, 4)))), LEAF))
        self.look(SUM, 2, 9, right, False)
        one = ("deal", 1, (("deal", 2, (LEAF,)),))
        self.look(SUM, 1, 2, one, True)
        self.look(SUM, 1, 1, one, False)
        self.look(SUM, 2, 2, one, False)
        self.look(SUM, 1, 10 ** 50, one, True)
        self.look(SUM, 10 ** 50, 2, one, False)
        self.look(SUM, 1, 2, ("deal", 2, (("deal", 1, (LEAF,)),)), True)
        self.look(SUM, 1, 2, one, False, (0,))
        self.look(SUM, 1, 2, one[2][0], True, (0,))
        for wrong in (("deal", 1, (("deal", 1, (LEAF,)),)), ("deal", 0, (one,)), ("deal", 3, (one,)), ("deal", True, one[2]),
                      ("deal", 1, one[2][0]), ("deal", 1, list(one[2])), ("deal", 1, ()), ("deal", "1", one[2]),
                      ("deal", 1, one[2] * 2), ("deal", 1), ("deal", 1, one[2], 1), ("Deal", 1, one[2]), ["deal", 1, one[2]],
                      ("deal", (1,), one[2]), ("deal", None, one[2]), ("deal", -1, (one,)), ("solved",) + one[1:],
                      ("deal", 1, (("deal", 2, (None,)),)), ("deal", 1, {0: one[2][0]}), (1, "deal", one[2]), one[2]):
            self.look(SUM, 1, 2, wrong, False)

    def test_numbers_that_are_not_needed(self):
        one = ("deal", 1, (("deal", 2, (LEAF,)),))
        self.look(SUM, 1, 40, ("deal", 40, (("deal", 7, (one,)),)), True)
        self.look(SUM, 1, 39, ("deal", 40, (("deal", 7, (one,)),)), False)
        self.look(SUM, 1, 40, ("deal", 7, (("deal", 7, (one,)),)), False)
        great = 10 ** 59
        self.look(SUM, 1, great, ("deal", great, (("deal", great - 1, (one,)),)), True)
        self.look(SUM, 1, great - 1, ("deal", great, (one,)), False)
        self.look(SUM, 1, great, ("deal", great, (("deal", 2 * great, (one,)),)), False)
        half = great // 2
        self.look(SUM, 1, great, ("deal", great, (("deal", half, (("solved", (half, half, great)),)),)), True)

    def test_deep_trees(self):
        # Each node of one box nests its branch two deep.
        numbers = list(range(97, 2, -1))
        one = ("deal", 1, (("deal", 2, (LEAF,)),))
        for number in numbers:
            one = ("deal", number, (one,))
        self.look(SUM, 1, 97, one, True)
        self.look(SUM, 1, 96, one, False)
        self.look(SUM, 1, 97, nested(90, ("deal", 1, ()), lambda inner: ("deal", 2, (inner,))), False)

    def test_dealings_have_no_trees(self):
        rng = random.Random(761)
        made = [tree(SUM, 2, 5), tree(SUM, 2, 9), tree(APART, 2, 9, unlike=PAIR), tree(SUM, 1, 2)]
        for thing in made:
            for boxes in (1, 2, 3):
                for most in range(1, 10):
                    for system, pairs in ((SUM, ()), (APART, PAIR), (APART, ()), (SUM, PAIR), (ALWAYS, ())):
                        self.look(system, boxes, most, thing, is_tree(system, boxes, most, thing, {}, pairs), (), pairs)
        for _ in range(30):
            thing = spoiled(rng, rng.choice(made))
            self.look(SUM, 2, 4, thing, False)

    def test_trees_of_the_tests(self):
        # They deal the numbers in any order, also needless ones, and go on where a box holds a solution.
        rng = random.Random(762)
        count = late = 0
        while count < 250:
            width = rng.randint(1, 3)
            system = rng.choice((random_system, likely_system))(rng, width, rng.randint(0, 2), rng.randint(0, 1), 2)
            boxes = rng.randint(1, 3)
            most = rng.randint(1, (0, 9, 6, 4)[boxes])
            pairs = random_pairs(rng, system.names, 2) if rng.randrange(2) else ()
            start = tuple(rng.randrange(boxes) for _ in range(rng.randint(0, most) // 2))
            thing = random_tree(rng, system, boxes, range(1, most + 1), dealt_by(start), pairs)
            if thing is None or size_of(thing) > 800:
                continue
            count += 1
            late += depth_of(thing) + len(start) == most
            self.assertTrue(is_tree(system, boxes, most, thing, dealt_by(start), pairs))
            self.look(system, boxes, most, thing, True, start, pairs)
            for _ in range(12):
                wrong = spoiled(rng, thing)
                self.look(system, boxes, most, wrong, is_tree(system, boxes, most, wrong, dealt_by(start), pairs), start, pairs)
            for other in (most - 1, most + 3):
                self.look(system, boxes, max(other, len(start), 1), thing,
                          is_tree(system, boxes, max(other, len(start), 1), thing, dealt_by(start), pairs), start, pairs)
        self.assertGreater(late, 40)

    def test_spoiled_trees(self):
        rng = random.Random(763)
        seen = {True: 0, False: 0}
        for system, boxes, most, start, pairs in ((SUM, 2, 5, (), ()), (APART, 2, 9, (), PAIR), (SUM, 3, 14, (0, 1, 2), ()),
                                                  (APART, 1, 3, (), (("x", "y"), ("z", "x"))), (SUM, 2, 9, (1, 0), PAIR)):
            made = tree(system, boxes, most, start=start, unlike=pairs)
            for _ in range(120):
                wrong = spoiled(rng, made)
                right = is_tree(system, boxes, most, wrong, dealt_by(start), pairs)
                seen[right] += 1
                self.look(system, boxes, most, wrong, right, start, pairs)
        self.assertGreater(seen[False], 300)

    def test_any_value(self):
        for value in odd_values():
            self.look(SUM, 2, 5, value, False)
            self.look(SUM, 2, 5, ("deal", value, (LEAF, LEAF)), False)
            self.look(SUM, 2, 5, ("deal", 1, (value, LEAF)), False)
            self.look(SUM, 2, 5, ("deal", 1, value), False)
            self.look(SUM, 2, 5, ("solved", value), False, (0, 0))
            self.look(SUM, 2, 5, ("solved", (1, value, 2)), value == 1 and value is not True, (0, 0))
            self.look(SUM, 2, 5, (value, (1, 1, 2)), False, (0, 0))
        self.look(SUM, 200000, 5, ("deal", 1, (LEAF,) * 60000), False)

    def test_systems_of_six_names(self):
        six = System(NAMES, (((1, 1, 1, 1, 1, -5), 0),), (((1, 0, 0, 0, 0, 0), 0, 2),))
        leaf = ("solved", (2,) * 6)
        self.look(six, 2, 2, ("deal", 2, (leaf, leaf)), True)
        self.look(six, 2, 1, ("deal", 2, (leaf, leaf)), False)
        self.look(six, 2, 2, ("deal", 2, (leaf, ("solved", (1,) * 6))), False)
        self.look(six, 2, 2, ("deal", 2, (leaf, leaf)), False, (), (("x", "w"),))
        numbers = (2, 3, 1, 4, 5, 3)
        self.look(six, 1, 5, ("solved", numbers), True, (0,) * 5, (("x", "y"), ("u", "v")))
        self.look(six, 1, 5, ("solved", numbers), False, (0,) * 5, (("x", "y"), ("y", "w")))


if __name__ == "__main__":
    unittest.main()
