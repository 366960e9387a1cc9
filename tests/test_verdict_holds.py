"""Points 16 and 19: which values are right verdicts, whoever made them."""

import itertools
import random
import unittest

from tests.oracles import (NAMES, is_modulo_verdict, is_verdict, likely_system, odd_values, parts_of, primes,
                           random_pairs, spoiled)
from tests.test_form_holds import another
from whateverboxes.forms import alike
from whateverboxes.systems import System
from whateverboxes.verdicts import modulo_verdict, modulo_verdict_holds, verdict, verdict_holds

SUM = System(("x", "y", "z"), (((1, 1, -1), 0),))
THREE = System(("x", "y", "z"), (((1, 1, -3), 0),))
TIED = System(("x", "y"), (((1, -1), 0),), (((1, 0), 1, 3),))
ODD = System(("x", "y"), (((1, -1), -1),))
EMPTY = System(("x", "y"), (((2, 4), 1),))
MADE = (1, (0, 1, 0), ((1, 0, 1), (0, 1, 1)))


def small_system(rng):
    """A system for which determinants are found fast enough."""
    width = rng.randint(1, 3)
    return likely_system(rng, width, rng.randint(0, 2), rng.randint(0, 1 if width == 3 else 2), 2)


class VerdictHoldsTest(unittest.TestCase):
    def holds(self, system, thing, pairs=()):
        told = verdict_holds(system, thing, unlike=pairs)
        self.assertIs(type(told), bool)
        return told

    def test_calls_by_name(self):
        self.assertIs(verdict_holds(thing=("alike", 1), system=TIED), True)
        self.assertIs(verdict_holds(unlike=(("x", "y"),), thing=("alike", 1), system=TIED), False)
        self.assertIs(verdict_holds(TIED, ("never", "x", "y"), unlike=(("x", "y"),)), True)
        with self.assertRaises(TypeError):
            verdict_holds(TIED, ("alike", 1), ())

    def test_moduli(self):
        pair = (("x", "y"),)
        for modulus, right in ((1, False), (2, True), (3, True), (10 ** 29 + 3, True), (0, False), (-2, False),
                               (True, False), ("2", False), ((2,), False), (None, False)):
            self.assertIs(self.holds(ODD, ("modulo", modulus)), right)
            self.assertIs(self.holds(ODD, ("modulo", modulus), pair), right)
        for modulus in (1, 2, 7, 10 ** 29):
            self.assertIs(self.holds(EMPTY, ("modulo", modulus)), True)
            self.assertIs(self.holds(EMPTY, ("modulo", modulus), pair), True)
            self.assertIs(self.holds(TIED, ("modulo", modulus), pair), False)
        self.assertIs(self.holds(EMPTY, ("modulo", True)), False)
        self.assertIs(self.holds(EMPTY, ("modulo", 0)), False)
        self.assertIs(self.holds(ODD, ("modulo", 2, 2)), False)
        self.assertIs(self.holds(ODD, ("modulo",)), False)
        self.assertIs(self.holds(ODD, ["modulo", 2]), False)
        self.assertIs(self.holds(ODD, ("Modulo", 2)), False)
        self.assertIs(self.holds(ODD, "modulo"), False)

    def test_each_right_modulus(self):
        rng = random.Random(601)
        count = 0
        seen = {True: 0, False: 0}
        while count < 60:
            system = small_system(rng)
            told = verdict(system)
            if told[0] != "modulo":
                continue
            count += 1
            pairs = random_pairs(rng, system.names, 2)
            for modulus in list(range(1, 14)) + [rng.randint(1, 10 ** 30) for _ in range(3)]:
                right = is_verdict(system, ("modulo", modulus), ())
                self.assertIs(self.holds(system, ("modulo", modulus), pairs), right)
                seen[right] += 1
            for times in (1, 2, 3, 35, 10 ** 28 + 1):
                self.assertIs(self.holds(system, ("modulo", told[1] * times), pairs), True)
        self.assertGreater(min(seen.values()), 80)

    def test_alike_numbers(self):
        for number, right in ((1, True), (4, True), (3 * 10 ** 40 + 1, True), (2, False), (0, False), (-2, False),
                              (True, False), (False, False), ("1", False), ((1,), False)):
            self.assertIs(self.holds(TIED, ("alike", number)), right)
            self.assertIs(self.holds(TIED, ("alike", number), (("x", "y"),)), False)
        self.assertIs(self.holds(SUM, ("alike", 0)), False)
        self.assertIs(self.holds(System(("x",), (((1,), 1),)), ("alike", True)), False)
        self.assertIs(self.holds(System(("x",), (((1,), -1),)), ("alike", -1)), False)
        self.assertIs(self.holds(TIED, ("alike", 1, 1)), False)

    def test_never(self):
        pairs = (("x", "y"), ("z", "y"))
        tied = System(("x", "y", "z"), (((1, -1, 0), 0),))
        self.assertIs(self.holds(tied, ("never", "x", "y"), pairs), True)
        self.assertIs(self.holds(tied, ("never", "y", "x"), pairs), False)
        self.assertIs(self.holds(tied, ("never", "z", "y"), pairs), False)
        self.assertIs(self.holds(tied, ("never", "x", "y")), False)
        self.assertIs(self.holds(tied, ("never", "x", "x"), pairs), False)
        self.assertIs(self.holds(tied, ("never", ("x", "y")), pairs), False)
        self.assertIs(self.holds(tied, ("never", "x", "y", "z"), pairs), False)
        self.assertIs(self.holds(tied, ("never", "x", ["y"]), pairs), False)
        self.assertIs(self.holds(tied, ("never", "y", "x"), pairs + (("y", "x"),)), True)
        apart = System(("x", "y"), (((1, -1), 4),))
        self.assertIs(self.holds(apart, ("never", "x", "y"), (("x", "y"),)), False)
        self.assertIs(self.holds(EMPTY, ("never", "x", "y"), (("x", "y"),)), True)
        self.assertIs(self.holds(EMPTY, ("never", "x", "y"), ()), False)
        fixed = System(("x", "y"), (((1, 0), 3), ((0, 1), 3)))
        self.assertIs(self.holds(fixed, ("never", "x", "y"), (("x", "y"),)), True)
        other = System(("x", "y"), (((1, 0), 3), ((0, 1), 4)))
        self.assertIs(self.holds(other, ("never", "x", "y"), (("x", "y"),)), False)

    def test_forms(self):
        self.assertIs(self.holds(SUM, ("form", 0, MADE)), True)
        self.assertIs(self.holds(SUM, ("form", 1, MADE)), False)
        self.assertIs(self.holds(SUM, ("form", False, MADE)), False)
        self.assertIs(self.holds(SUM, ("form", 0, MADE, ())), False)
        self.assertIs(self.holds(SUM, ("form", MADE, 0)), False)
        self.assertIs(self.holds(SUM, ("form", MADE)), False)
        self.assertIs(self.holds(SUM, MADE), False)
        for pairs in ((("x", "y"),), (("x", "z"),), (("y", "z"),), (("x", "y"), ("z", "y"), ("z", "x"), ("x", "y"))):
            self.assertIs(self.holds(SUM, ("form", 0, MADE), pairs), True)
        free = System(("x", "y"), ())
        flat = (1, (0, 0), ((1, 1),))
        for number in (-10 ** 40, -1, 0, 1, 10 ** 40):
            self.assertIs(self.holds(free, ("form", number, flat)), True)
            self.assertIs(self.holds(free, ("form", number, flat), (("x", "y"),)), False)
            self.assertIs(self.holds(free, ("form", number, (1, (0, 0), ((1, 1), (0, 1)))), (("x", "y"),)), True)
        self.assertIs(self.holds(TIED, ("form", 1, (3, (0, 0), ((3, 3),)))), True)
        self.assertIs(self.holds(TIED, ("form", -2, (3, (0, 0), ((3, 3),)))), True)
        self.assertIs(self.holds(TIED, ("form", 2, (3, (0, 0), ((3, 3),)))), False)
        self.assertIs(self.holds(TIED, ("form", 1, (3, (0, 0), ((3, 3),))), (("x", "y"),)), False)

    def test_digits(self):
        clear = [prime for prime in primes(60) if prime > 3]
        for prime in range(-3, 60):
            self.assertIs(self.holds(THREE, ("digits", 0, prime)), prime in clear)
            self.assertIs(self.holds(THREE, ("digits", 0, prime), (("x", "y"),)), prime in clear)
            self.assertIs(self.holds(THREE, ("digits", 1, prime)), False)
        for prime, right in ((999983, True), (999979, True), (999981, False), (1000000, False), (1000003, False),
                             (True, False), ("5", False), (5 * 7, False), (None, False)):
            self.assertIs(self.holds(THREE, ("digits", 0, prime)), right)
        self.assertIs(self.holds(THREE, ("digits", False, 5)), False)
        self.assertIs(self.holds(THREE, ("digits", 0)), False)
        self.assertIs(self.holds(THREE, ("digits", 0, 5, 5)), False)
        ahead = System(("x", "y", "z"), (((1, 1, -3), -2),))
        self.assertIs(self.holds(ahead, ("digits", 2, 5)), False)
        self.assertIs(self.holds(ahead, ("digits", 2, 5), (("x", "y"),)), True)
        self.assertIs(self.holds(ahead, ("digits", 2, 3), (("x", "y"),)), False)
        self.assertIs(self.holds(ahead, ("digits", 0, 5), (("x", "y"),)), False)
        self.assertIs(self.holds(SUM, ("digits", 0, 5)), False)
        self.assertIs(self.holds(SUM, ("digits", 0, 5), (("x", "y"),)), False)
        self.assertIs(self.holds(System(("x",), (((0,), 0),)), ("digits", 0, 2)), False)
        partly = System(("x", "y", "z"), (((1, -1, 0), 0), ((0, 0, 1), 0)))
        self.assertIs(self.holds(partly, ("digits", 0, 2)), True)

    def variants(self, rng, system, told, pairs):
        """Other right verdicts of the same kind, and near misses."""
        found = alike(system)
        step = found[1] if len(found) > 1 else 0
        number = found[0] + rng.randint(-4, 4) * step if found else 0
        yield told
        yield "alike", number
        yield "alike", (found[0] if found else 1) + rng.randint(0, 10 ** 30) * step
        yield "modulo", rng.choice((1, 2, 3, 4, 6, 12, 10 ** 30))
        yield "digits", number, rng.choice(primes(40) + [999983, 4, 15])
        for one, other in pairs[:2]:
            yield "never", one, other
            yield "never", other, one
        if told[0] == "form":
            yield "form", number, another(rng, system, told[2])

    def test_all_kinds_of_values(self):
        rng = random.Random(602)
        seen = {}
        for _ in range(220):
            system = small_system(rng)
            pairs = random_pairs(rng, system.names, 2)
            before = parts_of(system)
            told = verdict(system, unlike=pairs)
            self.assertIs(self.holds(system, told, pairs), True)
            for made in self.variants(rng, system, told, pairs):
                for thing in (made, spoiled(rng, made), spoiled(rng, made)):
                    right = is_verdict(system, thing, pairs)
                    self.assertIs(self.holds(system, thing, pairs), right, (str(system), pairs, str(thing)[:300]))
                    seen[made[0], right] = seen.get((made[0], right), 0) + 1
            self.assertEqual(parts_of(system), before)
        self.assertEqual(len(seen), 10)
        self.assertGreater(min(seen.values()), 25)

    def test_verdicts_of_other_systems(self):
        rng = random.Random(603)
        systems = [likely_system(rng, 3, rng.randint(0, 2), rng.randint(0, 1), 2) for _ in range(25)]
        verdicts = [(pairs, verdict(system, unlike=pairs)) for system in systems
                    for pairs in ((), (("x", "y"),), (("z", "x"), ("y", "z")))]
        seen = {True: 0, False: 0}
        for system in systems:
            for pairs, thing in rng.sample(verdicts, 25):
                right = is_verdict(system, thing, pairs)
                self.assertIs(self.holds(system, thing, pairs), right)
                seen[right] += 1
        self.assertGreater(min(seen.values()), 80)

    def test_verdicts_of_six_names(self):
        rng = random.Random(604)
        words = {}
        for _ in range(40):
            system = likely_system(rng, 6, rng.randint(0, 4), rng.randint(0, 3))
            pairs = random_pairs(rng, NAMES, 6)
            told = verdict(system, unlike=pairs)
            self.assertIs(self.holds(system, told, pairs), True)
            words[told[0]] = True
        self.assertGreaterEqual(len(words), 4)

    def test_odd_values(self):
        for system, pairs in ((SUM, ()), (TIED, ()), (TIED, (("x", "y"),)), (ODD, ()), (THREE, (("x", "y"),))):
            for value in odd_values():
                self.assertIs(self.holds(system, value, pairs), False)
                for thing in (("modulo", value), ("alike", value), ("never", value, "y"), ("never", "x", value),
                              ("form", value, MADE), ("form", 0, value), ("form", 0, (1, value, MADE[2])),
                              ("form", 0, (1, MADE[1], (value,) * 3)), ("digits", value, 5), ("digits", 0, value),
                              ("digits", value, value), (value, 0, 5), (value, 2), (value, "x", "y"),
                              ("form", 0, (1, MADE[1], MADE[2] + (value,)))):
                    self.assertIs(self.holds(system, thing, pairs), is_verdict(system, thing, pairs))


class ModuloVerdictHoldsTest(unittest.TestCase):
    def holds(self, system, thing):
        told = modulo_verdict_holds(system, thing)
        self.assertIs(type(told), bool)
        return told

    def test_examples(self):
        self.assertIs(modulo_verdict_holds(thing=("ahead", 0, (2, 1, 1)), system=THREE), True)
        weights = System(("x", "y", "z"), (((1, 1, 1), 0),))
        for thing, right in ((("weights", (1, 1, 1)), True), (("weights", (7, 7, 7)), True),
                             (("weights", (0, 0, 0)), False), (("weights", (-1, -1, -1)), False),
                             (("weights", (1, 1, 2)), False), (("weights", (1, 1)), False),
                             (("weights", [1, 1, 1]), False), (("weights", (True, 1, 1)), False),
                             (("weights", (1, 1, 1), 0), False), (("weights", 1, 1, 1), False),
                             (("ahead", 0, (1, 1, -2)), False), (("ahead", 0, (0, 0, 0)), False)):
            self.assertIs(self.holds(weights, thing), right, thing)
        for thing, right in ((("ahead", 0, (1, 2, 1)), True), (("ahead", 0, (4, 2, 2)), True),
                             (("ahead", 0, (3, 0, 1)), False), (("ahead", 0, (1, 1, 1)), False),
                             (("ahead", 1, (2, 1, 1)), False), (("ahead", False, (2, 1, 1)), False),
                             (("ahead", 0, (2, True, 1)), False), (("ahead", 0, [2, 1, 1]), False),
                             (("ahead", 0, (2, 1)), False), (("ahead", (2, 1, 1)), False),
                             (("ahead", 0, (2, 1, 1), 0), False), (("weights", (1, 1, 0)), False),
                             (("weights", (1, 1, -3)), False), (("weights", (-1, -1, 3)), False),
                             (("digits", 0, 5), False), (("alike", 0), False), (("modulo", 2), False)):
            self.assertIs(self.holds(THREE, thing), right, thing)

    def test_where_several_are_right(self):
        both = System(("x", "y", "z"), (((1, 1, -3), -2),))
        self.assertIs(self.holds(both, ("alike", 2)), True)
        self.assertIs(self.holds(both, ("ahead", 2, (2, 1, 1))), True)
        above = System(("x", "y"), (((1, 1), 4),))
        self.assertIs(self.holds(above, ("alike", 2)), True)
        self.assertIs(self.holds(above, ("weights", (1, 1))), False)
        below = System(("x", "y"), (((1, 1), -4),))
        self.assertIs(self.holds(below, ("weights", (1, 1))), True)
        self.assertIs(self.holds(System(("x", "y"), (((1, 1), 0),)), ("weights", (5, 5))), True)
        self.assertIs(self.holds(System(("x", "y"), (((1, 1), -3),)), ("weights", (1, 1))), False)
        self.assertIs(self.holds(System(("x", "y"), ()), ("weights", (1, 1))), False)
        self.assertIs(self.holds(TIED, ("weights", (1, 1))), False)
        self.assertIs(self.holds(TIED, ("ahead", 4, (3, 3))), True)
        self.assertIs(self.holds(TIED, ("ahead", -2, (3, 3))), True)
        self.assertIs(self.holds(TIED, ("ahead", 1, (1, 1))), False)
        self.assertIs(self.holds(ODD, ("ahead", 0, (1, 1))), False)
        self.assertIs(self.holds(EMPTY, ("modulo", 1)), True)
        self.assertIs(self.holds(ODD, ("modulo", 10 ** 29)), True)

    def test_all_kinds_of_values(self):
        rng = random.Random(611)
        seen = {}
        for _ in range(400):
            system = small_system(rng)
            before = parts_of(system)
            told = modulo_verdict(system)
            self.assertIs(self.holds(system, told), True)
            for made in self.variants(rng, system, told):
                for thing in (made, spoiled(rng, made), spoiled(rng, made)):
                    right = is_modulo_verdict(system, thing)
                    self.assertIs(self.holds(system, thing), right, (str(system), str(thing)[:300]))
                    seen[made[0], right] = seen.get((made[0], right), 0) + 1
            self.assertEqual(parts_of(system), before)
        self.assertEqual(len(seen), 8)
        self.assertGreater(min(seen.values()), 30)

    def variants(self, rng, system, told):
        found = alike(system) or (0,)
        number = found[0] + rng.randint(-3, 3) * sum(found[1:])
        yield told
        yield "alike", number
        yield "modulo", rng.choice((1, 2, 3, 4, 12, 10 ** 30))
        moves = system.moves() or ((0,) * len(system.names),)
        times = [rng.randint(-1, 3) for _ in moves]
        total = tuple(sum(many * move[k] for many, move in zip(times, moves)) for k in range(len(system.names)))
        yield "ahead", number, total
        if told[0] == "ahead":
            yield "ahead", number, tuple(5 * a + b for a, b in zip(told[2], total))
        yield "weights", tuple(rng.randint(0, 2) for _ in system.names)
        yield "weights", rng.choice([factors for factors, _ in system.rows] or [(0,) * len(system.names)])
        if told[0] == "weights":
            yield "weights", tuple(10 ** 30 * entry for entry in told[1])

    def test_odd_values(self):
        for system in (SUM, TIED, ODD, THREE, System(("x", "y", "z"), (((1, 1, 1), 0),))):
            for value in odd_values():
                self.assertIs(self.holds(system, value), False)
                for thing in (("modulo", value), ("alike", value), ("ahead", value, (2, 1, 1)), ("ahead", 0, value),
                              ("ahead", 0, (value, 1, 1)), ("weights", value), ("weights", (1, value, 1)),
                              (value, 0, (2, 1, 1)), (value, (1, 1, 1)), ("weights", (value,) * 3)):
                    self.assertIs(self.holds(system, thing), is_modulo_verdict(system, thing))

    def test_verdicts_of_other_systems(self):
        rng = random.Random(612)
        systems = [likely_system(rng, 3, rng.randint(0, 2), rng.randint(0, 1), 2) for _ in range(40)]
        things = [modulo_verdict(system) for system in systems]
        seen = {True: 0, False: 0}
        for system, thing in itertools.product(systems, rng.sample(things, 20)):
            right = is_modulo_verdict(system, thing)
            self.assertIs(self.holds(system, thing), right)
            seen[right] += 1
        self.assertGreater(min(seen.values()), 80)


if __name__ == "__main__":
    unittest.main()
