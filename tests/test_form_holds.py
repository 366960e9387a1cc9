"""Point 11: which values are forms of a system, whoever made them."""

import random
import unittest

from tests.oracles import is_form, likely_system, odd_values, parts_of, spoiled
from whateverboxes.errors import NoForm
from whateverboxes.forms import form, form_holds
from whateverboxes.systems import System

SUM = System(("x", "y", "z"), (((1, 1, -1), 0),))


def systems_with_forms(rng, count):
    """Systems with a form of their own."""
    while count:
        system = likely_system(rng, rng.randint(1, 5), rng.randint(0, 2), rng.randint(0, 2))
        try:
            made = form(system)
        except NoForm:
            continue
        count -= 1
        yield system, made


def another(rng, system, made):
    """Another form: earlier moves added to later ones, moves of zeros put in, more moves behind, all multiplied."""
    factor, fronts, moves = made
    moves = [list(move) for move in moves]
    fronts = list(fronts)
    for _ in range(rng.randrange(4)):
        if len(moves) > 1:
            low, high = sorted(rng.sample(range(len(moves)), 2))
            times = rng.choice((-3, -1, 1, 5, 10 ** 20))
            moves[high] = [a + times * b for a, b in zip(moves[high], moves[low])]
    for _ in range(rng.randrange(3)):
        at = rng.randint(0, len(moves))
        moves.insert(at, [0] * len(system.names))
        fronts = [front + (front >= at) for front in fronts]
    while len(moves) < 12 and rng.randrange(4):
        moves.append(list(rng.choice(system.moves() + ((0,) * len(system.names),))))
    times = rng.choice((1, 1, 2, 7, 1000000))
    return factor * times, tuple(fronts), tuple(tuple(times * entry for entry in move) for move in moves)


class FormHoldsTest(unittest.TestCase):
    def test_examples(self):
        made = (1, (0, 1, 0), ((1, 0, 1), (0, 1, 1)))
        self.assertIs(form_holds(SUM, made), True)
        self.assertIs(form_holds(system=SUM, thing=made), True)
        self.assertIs(form_holds(thing=(1, (1, 0, 0), ((0, 1, 1), (1, 0, 1))), system=SUM), True)
        self.assertIs(form_holds(SUM, (1, (1, 0, 0), ((0, 1, 1), (1, 7, 8)))), True)
        self.assertIs(form_holds(SUM, (3, (0, 1, 0), ((3, 0, 3), (0, 3, 3)))), True)

    def test_near_misses(self):
        for thing in ((1, (0, 1, 1), ((1, 0, 1), (0, 1, 1))),      # z has an entry ahead of its front
                      (1, (0, 0, 0), ((1, 0, 1), (0, 1, 1))),      # y has 0 at its front
                      (2, (0, 1, 0), ((1, 0, 1), (0, 1, 1))),      # another factor
                      (2, (0, 1, 0), ((2, 0, 2), (0, 1, 1))),      # y has another factor
                      (1, (0, 1, 0), ((1, 0, 1), (1, 1, 1))),      # no move
                      (1, (0, 1, 0), ((1, 0, 1), (0, 1, 1), (0, 0, 1))),
                      (0, (0, 1, 0), ((0, 0, 0), (0, 0, 0))),
                      (-1, (0, 1, 0), ((-1, 0, -1), (0, -1, -1))),
                      (1, (0, -1, 0), ((1, 0, 1), (0, 1, 1))),
                      (1, (-2, 1, 0), ((1, 0, 1), (0, 1, 1))),
                      (1, (0, 2, 0), ((1, 0, 1), (0, 1, 1))),
                      (True, (0, 1, 0), ((1, 0, 1), (0, 1, 1))),
                      (1, (False, 1, 0), ((1, 0, 1), (0, 1, 1))),
                      (1, (0, True, 0), ((1, 0, 1), (0, 1, 1))),
                      (1, (0, 1, 0), ((1, 0, True), (0, 1, 1))),
                      (1, (0, 1, 0), ((1, False, 1), (0, 1, 1))),
                      ("1", (0, 1, 0), ((1, 0, 1), (0, 1, 1))),
                      [1, (0, 1, 0), ((1, 0, 1), (0, 1, 1))],
                      (1, [0, 1, 0], ((1, 0, 1), (0, 1, 1))),
                      (1, (0, 1, 0), [(1, 0, 1), (0, 1, 1)]),
                      (1, (0, 1, 0), ([1, 0, 1], (0, 1, 1))),
                      (1, (0, 1, 0), ((1, 0, 1), (0, 1, 1), ())),
                      (1, (0, 1, 0), ((1, 0, 1), (0, 1, 1), (0, 0))),
                      (1, (0, 1, 0), ((1, 0, 1), (0, 1, 1), (0, 0, 0, 0))),
                      (1, (0, 1, 0), ((1, 0, 1, 0), (0, 1, 1, 0))),
                      (1, (0, 1), ((1, 0, 1), (0, 1, 1))),
                      (1, (0, 1, 0, 0), ((1, 0, 1), (0, 1, 1))),
                      (1, (0, 1, 0)), (1, (0, 1, 0), ((1, 0, 1), (0, 1, 1)), ()),
                      (1, (), ()), (1, (0, 1, 0), ()), (1, (0, 1, 0), (1, 0)),
                      ((0, 1, 0), 1, ((1, 0, 1), (0, 1, 1))), ("form", 0, (1, (0, 1, 0), ((1, 0, 1), (0, 1, 1))))):
            self.assertIs(form_holds(SUM, thing), False, thing)

    def test_at_most_twelve_moves(self):
        made = [(1, 0, 1), (0, 1, 1)]
        for count in range(15):
            moves = tuple(made + [(0, 0, 0)] * count)
            self.assertIs(form_holds(SUM, (1, (0, 1, 0), moves)), count <= 10)
            ahead = tuple([(0, 0, 0)] * count + made)
            self.assertIs(form_holds(SUM, (1, (count, count + 1, count), ahead)), count <= 10)

    def test_rests_count(self):
        system = System(("x", "y"), (((1, -1), 4),), (((1, 0), 1, 3),))
        self.assertIs(form_holds(system, (1, (0, 0), ((1, 1),))), False)
        self.assertIs(form_holds(system, (3, (0, 0), ((3, 3),))), True)
        self.assertIs(form_holds(system, (4, (0, 0), ((4, 4),))), False)
        self.assertIs(form_holds(system, (6, (0, 0), ((6, 6),))), True)

    def test_every_form_whoever_made_it(self):
        rng = random.Random(201)
        long = 0
        for system, made in systems_with_forms(rng, 150):
            before = parts_of(system)
            self.assertIs(form_holds(system, made), True)
            for _ in range(8):
                thing = another(rng, system, made)
                self.assertTrue(is_form(system, thing))
                self.assertIs(form_holds(system, thing), True)
                long += len(thing[2]) == 12
            self.assertEqual(parts_of(system), before)
        self.assertGreater(long, 50)

    def test_every_other_value(self):
        rng = random.Random(202)
        seen = {True: 0, False: 0}
        for system, made in systems_with_forms(rng, 120):
            for _ in range(60):
                thing = spoiled(rng, another(rng, system, made) if rng.randrange(2) else made)
                told = form_holds(system, thing)
                self.assertIs(told, is_form(system, thing))
                seen[told] += 1
        self.assertGreater(seen[True], 300)
        self.assertGreater(seen[False], 3000)

    def test_forms_of_other_systems(self):
        rng = random.Random(203)
        made = list(systems_with_forms(rng, 60))
        seen = {True: 0, False: 0}
        for system, _ in made:
            for _, thing in made:
                told = form_holds(system, thing)
                self.assertIs(told, is_form(system, thing))
                seen[told] += 1
        self.assertGreater(min(seen.values()), 100)

    def test_odd_values(self):
        for value in odd_values():
            self.assertIs(form_holds(SUM, value), False)
            for thing in ((value, (0, 1, 0), ((1, 0, 1), (0, 1, 1))), (1, value, ((1, 0, 1), (0, 1, 1))),
                          (1, (0, value, 0), ((1, 0, 1), (0, 1, 1))), (1, (0, 1, 0), value),
                          (1, (0, 1, 0), ((1, 0, 1), value)), (1, (0, 1, 0), ((1, 0, 1), (0, value, value))),
                          (value, value, value), (value,) * 13):
                self.assertIs(form_holds(SUM, thing), is_form(SUM, thing))


if __name__ == "__main__":
    unittest.main()
