"""Points 15, 17, 18 and 19: verdicts, barring sorters, several systems, and sorters by remainders."""

import itertools
import math
import random
import unittest

from tests.oracles import (NAMES, alike_numbers, are_unlike, bars_modulus, depends, fulfils, is_alike, is_clear,
                           is_form, is_modulo_verdict, is_sure, likely_system, parts_of, primes, random_pairs,
                           random_system, reached_indexes, solutions)
from whateverboxes.bars import Sorter, last_digit
from whateverboxes.forms import form_numbers
from whateverboxes.systems import System
from whateverboxes.verdicts import barring, beside, keepable, modulo_verdict, verdict, verdict_of_any

BOXES = {1: 80, 2: 30, 3: 13, 4: 7, 5: 4, 6: 4}


def read(*lines):
    return System.read("\n".join(lines))


def alike_in_reach(system):
    """Alike integers far enough to both sides to see whether there is one, or a step."""
    many = math.prod(modulus for _, _, modulus in system.rests)
    return alike_numbers(system, -200 - many, 200 + 2 * many)


def first_bound(system, pairs):
    """The first pair with the same entry in each direction: the row of its difference depends on the rows."""
    table = [factors for factors, _ in system.rows]
    for one, other in pairs:
        if depends(table, [(name == one) - (name == other) for name in system.names]):
            return one, other
    return None


def some_system(rng, k, most=4):
    make = likely_system if k % 3 else random_system
    return make(rng, rng.randint(1, most), rng.randint(0, 3), rng.randint(0, 2))


class VerdictTest(unittest.TestCase):
    def check(self, system, pairs):
        """The verdict, after a look whether it is the first one that applies."""
        before = parts_of(system)
        told = verdict(system, unlike=pairs)
        found = alike_in_reach(system)
        bound = first_bound(system, pairs)
        self.assertIs(type(told), tuple)
        if not found:
            least = next(m for m in itertools.count(1) if bars_modulus(system, m))
            self.assertEqual(told, ("modulo", least))
        elif found[-1] >= 1 and not pairs:
            self.assertEqual(told, ("alike", next(number for number in found if number >= 1)))
        elif bound:
            self.assertEqual(told, ("never", *bound))
        elif len(reached_indexes(system)) == len(system.names):
            word, number, form = told
            self.assertEqual(word, "form")
            self.assertTrue(is_alike(system, number) and is_form(system, form), (str(system), told))
            self.assertTrue(are_unlike(system, form[2], pairs), (str(system), pairs, told))
        else:
            least = next(prime for prime in primes(500) if is_clear(system, prime))
            self.assertEqual((told, len(found)), (("digits", found[0], least), 1))
        self.assertEqual(parts_of(system), before)
        return told

    def test_examples(self):
        self.assertEqual(verdict(read("names x y z", "x + y - z = 0"))[:2], ("form", 0))
        self.assertEqual(verdict(read("names x y z", "x + y - 3 z = 0")), ("digits", 0, 5))
        self.assertEqual(verdict(system=read("names x y", "x - y = -1"), unlike=()), ("modulo", 2))
        self.assertEqual(verdict(read("names x y", "2 x - y = -3")), ("digits", -3, 3))
        tied = read("names x y", "x - y = 0", "x = 1 mod 3")
        self.assertEqual(verdict(tied), ("alike", 1))
        self.assertEqual(verdict(tied, unlike=(("x", "y"),)), ("never", "x", "y"))
        self.assertEqual(verdict(tied, unlike=(("y", "x"), ("x", "y"))), ("never", "y", "x"))
        self.assertEqual(verdict(read("names x y z", "x + y - z = 2")), ("alike", 2))
        self.assertEqual(verdict(read("names x y z", "x + y + z = 0")), ("digits", 0, 5))
        self.assertEqual(verdict(read("names x", "0 = 1")), ("modulo", 1))
        self.assertEqual(verdict(read("names x", "2 x = 1")), ("modulo", 1))
        self.assertEqual(verdict(read("names x", "x = 1")), ("alike", 1))
        self.assertEqual(verdict(read("names x", "x = 0")), ("digits", 0, 2))
        self.assertEqual(verdict(read("names x y", "x = 1 mod 8", "y = 5 mod 8")), ("modulo", 8))
        self.assertEqual(verdict(read("names x y", "9 x - 8 y = 40"), unlike=(("x", "y"),)), ("digits", 40, 5))

    def test_the_pairs_are_passed_by_name_only(self):
        with self.assertRaises(TypeError):
            verdict(System(("x", "y"), ()), (("x", "y"),))

    def test_many_without_pairs(self):
        rng = random.Random(501)
        seen = {}
        for k in range(500):
            word = self.check(some_system(rng, k), ())[0]
            seen[word] = seen.get(word, 0) + 1
        self.assertGreater(min(seen[word] for word in ("modulo", "alike", "form", "digits")), 8)

    def test_many_with_pairs(self):
        rng = random.Random(502)
        seen = {}
        for k in range(500):
            system = some_system(rng, k)
            word = self.check(system, random_pairs(rng, system.names, 6))[0]
            seen[word] = seen.get(word, 0) + 1
        self.assertGreater(min(seen[word] for word in ("modulo", "alike", "never", "form", "digits")), 20)

    def test_six_names(self):
        rng = random.Random(503)
        seen = {}
        for _ in range(40):
            system = likely_system(rng, 6, rng.randint(0, 2), rng.randint(0, 1), 2)
            if alike_in_reach(system):
                word = self.check(system, random_pairs(rng, NAMES, 6))[0]
                seen[word] = seen.get(word, 0) + 1
        self.assertGreaterEqual(len(seen), 3)

    def test_a_form_with_unlike_entries_for_each_pair(self):
        every = tuple(itertools.combinations(NAMES, 2))
        for system in (System(NAMES, ()), System(NAMES, (((1, 1, -1, 0, 0, 0), 0),)),
                       System(NAMES, (((1, -1, 1, -1, 1, -1), 0),)),
                       System(NAMES, (((1, 1, -1, -1, 0, 0), 0), ((0, 1, 1, -1, -1, 0), 0)), (((1,) * 6, 0, 8),))):
            word, number, form = verdict(system, unlike=every[:6])
            self.assertEqual((word, is_alike(system, number), is_form(system, form)), ("form", True, True))
            self.assertTrue(are_unlike(system, form[2], every[:6]))
            pairs = tuple(pair for pair in every if not first_bound(system, (pair,)))
            self.assertEqual(len(pairs), 15)
            form = verdict(system, unlike=pairs)[2]
            self.assertTrue(is_form(system, form) and are_unlike(system, form[2], pairs))

    def test_least_modulus(self):
        rng = random.Random(504)
        seen = {}
        for _ in range(300):
            width = rng.randint(1, 3)
            rows = tuple((tuple(rng.randint(-9, 9) for _ in range(width)), rng.randint(-40, 40))
                         for _ in range(rng.randint(0, 2)))
            rests = tuple((tuple(rng.randint(-9, 9) for _ in range(width)), rng.randint(-40, 40), rng.randint(2, 12))
                          for _ in range(rng.randint(0, 2)))
            system = System(NAMES[:width], rows, rests)
            told = verdict(system)
            if told[0] == "modulo":
                seen[told[1]] = seen.get(told[1], 0) + 1
                self.assertTrue(bars_modulus(system, told[1]))
                for m in range(1, told[1]):
                    self.assertFalse(bars_modulus(system, m))
        self.assertGreaterEqual(len(seen), 8)
        self.assertEqual(verdict(System(("x", "y"), (((23, 30), 1),)))[1], 53)

    def test_systems_with_one_row(self):
        # Rado: with the constant 0 a row is sure just if it has only zeros, or some factors, not 0, add up to 0.
        rng = random.Random(505)
        seen = {}
        for _ in range(400):
            width = rng.randint(1, 6)
            factors = tuple(rng.randint(-9, 9) for _ in range(width))
            total = sum(factors)
            constant = rng.choice((0, total * rng.randint(-4, 4), rng.randint(-40, 40)))
            parts = [part for size in range(1, width + 1)
                     for part in itertools.combinations([factor for factor in factors if factor], size)]
            regular = not any(factors) or any(sum(part) == 0 for part in parts)
            told = verdict(System(NAMES[:width], ((factors, constant),)))
            if total == 0:
                expected = "modulo" if constant else "alike"
            elif constant % total:
                expected = "modulo"
            elif constant // total >= 1:
                expected = "alike"
            else:
                expected = "form" if regular else "digits"
            self.assertEqual(told[0], expected)
            seen[expected] = seen.get(expected, 0) + 1
        self.assertGreater(min(seen.values()), 30)


class SureTest(unittest.TestCase):
    def test_a_form_gives_solutions_in_one_box(self):
        rng = random.Random(511)
        count = 0
        while count < 80:
            system = likely_system(rng, rng.randint(1, 5), rng.randint(0, 2), rng.randint(0, 2))
            pairs = random_pairs(rng, system.names, 3)
            told = verdict(system, unlike=pairs)
            if told[0] != "form":
                continue
            count += 1
            _, number, form = told
            prime, modulus = rng.choice((2, 3, 5, 7)), rng.randint(1, 30)
            high = max(abs(entry) for move in form[2] for entry in move) + 1
            # High powers of the prime behind each other, and multiples of a much higher one that fall fast.
            lift = prime ** 40
            multiples = [modulus * (lift ** k + lift ** 20 * (1000 * high) ** (len(form[2]) - k))
                         for k in range(len(form[2]))]
            numbers = [number + entry for entry in form_numbers(form, *multiples)]
            self.assertTrue(fulfils(system.rows, system.rests, numbers))
            self.assertGreater(min(numbers), max(number, 0))
            values = dict(zip(system.names, numbers))
            self.assertTrue(all(values[one] != values[other] for one, other in pairs))
            sorter = Sorter.digits(prime, after=number) * Sorter.modulo(modulus)
            self.assertEqual(len({sorter(one) for one in numbers}), 1)
            self.assertEqual(len({last_digit(one - number, prime) for one in numbers}), 1)

    def test_each_way_to_deal_into_two_boxes_has_a_solution(self):
        for system, pairs, most in ((read("names x y z", "x + y - z = 0"), (), 5),
                                    (read("names x y z", "x - 2 y + z = 0"), (("x", "y"),), 9),
                                    (read("names x y z", "x + y - z = 2"), (), 2),
                                    (read("names x y", "x - y = 0"), (), 1),
                                    (read("names x y z", "x - y + 2 z = 0"), (), 11)):
            self.assertIn(verdict(system, unlike=pairs)[0], ("alike", "form"))
            found = list(solutions(system, pairs, most))
            for dealt in itertools.product((0, 1), repeat=most):
                self.assertTrue(any(len({dealt[n - 1] for n in numbers}) == 1 for numbers in found), str(system))


class BarringTest(unittest.TestCase):
    def same(self, one, two):
        self.assertIs(type(one), Sorter)
        self.assertEqual(one.boxes, two.boxes)
        for number in list(range(1, 120)) + [10 ** 39 + 7, 3 ** 80]:
            self.assertEqual(one(number), two(number))

    def test_one_verdict(self):
        self.same(barring(("modulo", 7)), Sorter.modulo(7))
        self.same(barring(("modulo", 1)), Sorter.modulo(1))
        self.same(barring(("modulo", 10 ** 30)), Sorter.modulo(10 ** 30))
        self.same(barring(("digits", 0, 5)), Sorter.digits(5))
        self.same(barring(("digits", -3, 5)), Sorter.digits(5, after=-3))
        self.same(barring(("digits", 4, 2)), Sorter.digits(2, after=4))
        self.same(barring(("never", "x", "y")), Sorter.modulo(1))

    def test_several_verdicts_in_order_from_the_left(self):
        things = (("modulo", 2), ("digits", 1, 3), ("never", "a", "b"), ("digits", -2, 5), ("modulo", 3), ("modulo", 2))
        made = [Sorter.modulo(2), Sorter.digits(3, after=1), Sorter.modulo(1), Sorter.digits(5, after=-2),
                Sorter.modulo(3), Sorter.modulo(2)]
        for size in range(1, 7):
            for order in itertools.islice(itertools.permutations(range(6), size), 0, 200, 7):
                expected = made[order[0]]
                for k in order[1:]:
                    expected = expected * made[k]
                self.same(barring(*[things[k] for k in order]), expected)

    def test_no_box_holds_a_solution(self):
        rng = random.Random(521)
        seen = {}
        for k in range(300):
            systems = []
            for _ in range(rng.randint(1, 3)):
                system = some_system(rng, k)
                pairs = random_pairs(rng, system.names, 3)
                told = verdict(system, unlike=pairs)
                if told[0] not in ("alike", "form"):
                    systems.append((system, pairs, told))
            if systems:
                sorter = barring(*[told for _, _, told in systems])
                for system, pairs, told in systems:
                    seen[told[0]] = seen.get(told[0], 0) + 1
                    for numbers in solutions(system, pairs, BOXES[len(system.names)]):
                        self.assertGreater(len({sorter(number) for number in numbers}), 1, (str(system), told))
        self.assertGreater(min(seen[word] for word in ("modulo", "never", "digits")), 40)

    def test_no_box_holds_a_great_solution(self):
        rng = random.Random(522)
        for system in (read("names x y z", "x + y - 3 z = 0"), read("names x y", "2 x - y = -3"),
                       read("names x y z", "2 x + 2 y - z = 0"), read("names x y z", "x + y - 3 z = 2"),
                       read("names x y z", "4 x + 2 y - z = 5")):
            unlike = (("x", "y"),) if verdict(system)[0] == "alike" else ()
            sorter = barring(verdict(system, unlike=unlike))
            moves = system.moves()
            count = 0
            for _ in range(3000):
                high = 10 ** rng.randint(1, 40)
                times = [rng.randint(-high, high) for _ in moves]
                point = [a + sum(many * move[k] for many, move in zip(times, moves))
                         for k, a in enumerate(system.point())]
                if min(point) > 0 and all(point[0] != point[1] for _ in unlike):
                    count += 1
                    self.assertTrue(fulfils(system.rows, system.rests, point))
                    self.assertGreater(len({sorter(number) for number in point}), 1)
            self.assertGreater(count, 50)


class OfAnyTest(unittest.TestCase):
    def test_examples(self):
        bad = read("names x y z", "x + y - 3 z = 0")
        odd = read("names x y", "x - y = -1")
        good = read("names x y z", "x + y - z = 2")
        self.assertEqual(verdict_of_any(good), ("sure", 0, ("alike", 2)))
        self.assertEqual(verdict_of_any(bad), ("barred", (("digits", 0, 5),)))
        self.assertEqual(verdict_of_any(bad, odd, good, good), ("sure", 2, ("alike", 2)))
        self.assertEqual(verdict_of_any(odd, bad, odd), ("barred", (("modulo", 2), ("digits", 0, 5), ("modulo", 2))))

    def test_many(self):
        rng = random.Random(531)
        seen = {"sure": 0, "barred": 0}
        for k in range(300):
            systems = [some_system(rng, k, 3) for _ in range(rng.randint(1, 6))]
            told = verdict_of_any(*systems)
            verdicts = [verdict(system) for system in systems]
            good = [at for at, system in enumerate(systems) if is_sure(system, ())]
            seen[told[0]] += 1
            if good:
                self.assertEqual(told, ("sure", good[0], verdicts[good[0]]))
            else:
                self.assertEqual(told, ("barred", tuple(verdicts)))
                sorter = barring(*told[1])
                for system in systems:
                    for numbers in solutions(system, (), 8):
                        self.assertGreater(len({sorter(number) for number in numbers}), 1)
        self.assertGreater(min(seen.values()), 50)


class BesideTest(unittest.TestCase):
    def test_examples(self):
        one = System(("x", "y"), (((1, 2), 3),), (((4, 5), 6, 7),))
        two = System(("y", "x"), (((8, -9), 1), ((0, 0), 2)), (((1, 1), 1, 2),))
        three = System(("z",), (), (((3,), 0, 9),))
        self.assertEqual(parts_of(beside(one)), parts_of(one))
        self.assertEqual(parts_of(beside(one, two, three)), (
            ("x", "y", "y2", "x2", "z"),
            (((1, 2, 0, 0, 0), 3), ((0, 0, 8, -9, 0), 1), ((0, 0, 0, 0, 0), 2)),
            (((4, 5, 0, 0, 0), 6, 7), ((0, 0, 1, 1, 0), 1, 2), ((0, 0, 0, 0, 3), 0, 9))))
        self.assertEqual(parts_of(beside(three, one)), (
            ("z", "x", "y"), (((0, 1, 2), 3),), (((3, 0, 0), 0, 9), ((0, 4, 5), 6, 7))))
        self.assertIs(type(beside(one, two)), System)

    def test_names(self):
        for names, expected in (
                ([("x",)] * 6, ("x", "x2", "x3", "x4", "x5", "x6")),
                ([("x", "x2"), ("x",)], ("x", "x2", "x3")),
                ([("x",), ("x", "x2")], ("x", "x2", "x22")),
                ([("x",), ("x2", "x")], ("x", "x2", "x3")),
                ([("x3", "x"), ("x", "x2"), ("x",)], ("x3", "x", "x2", "x22", "x4")),
                ([("x22", "x2"), ("x", "x2")], ("x22", "x2", "x", "x23")),
                ([("abcdefgh",), ("abcdefgh",)], ("abcdefgh", "abcdefgh2")),
                ([("a", "b"), ("b", "a"), ("b2", "c")], ("a", "b", "b2", "a2", "b22", "c"))):
            self.assertEqual(beside(*[System(one, ()) for one in names]).names, expected)

    def test_many(self):
        rng = random.Random(541)
        for k in range(150):
            systems = []
            left = 6
            while left and len(systems) < 6 and (not systems or rng.randrange(3)):
                width = rng.randint(1, min(3, left))
                left -= width
                system = likely_system(rng, width, rng.randint(0, 2), rng.randint(0, 2))
                systems.append(System(tuple(rng.sample(("x", "x2", "y", "y2", "x22"), width)), system.rows,
                                      system.rests))
            before = [parts_of(system) for system in systems]
            told = beside(*systems)
            names = []
            for system in systems:
                for name in system.names:
                    others = [name] + [f"{name}{number}" for number in range(2, 30)]
                    names.append(next(one for one in others if one not in names))
            self.assertEqual(told.names, tuple(names))
            for parts, at in ((told.rows, 1), (told.rests, 2)):
                expected = []
                ahead = 0
                for made in before:
                    width = len(made[0])
                    for factors, *more in made[at]:
                        expected.append(((0,) * ahead + factors + (0,) * (len(names) - ahead - width), *more))
                    ahead += width
                self.assertEqual(parts, tuple(expected))
            self.assertEqual([parts_of(system) for system in systems], before)
            for _ in range(20):
                numbers = [tuple(rng.randint(-3, 3) for _ in system.names) for system in systems]
                self.assertIs(told.fulfils(sum(numbers, ())),
                              all(system.fulfils(one) for system, one in zip(systems, numbers)))

    def test_the_system_beside_others_is_sure_just_if_one_box_holds_all(self):
        schur = read("names x y z", "x + y - z = 0")
        one = read("names x", "x = 3")
        self.assertEqual(verdict(beside(schur, schur))[0], "form")
        self.assertEqual(verdict(beside(one, one)), ("alike", 3))
        self.assertEqual(verdict(beside(one, read("names x", "x = 4")))[0], "modulo")
        self.assertEqual(verdict(beside(schur, one))[0], "modulo")


class KeepableTest(unittest.TestCase):
    def expected(self, system, pairs):
        good = []
        count = len(system.rows)
        for size in range(count + 1):
            for kept in itertools.combinations(range(count), size):
                if is_sure(System(system.names, tuple(system.rows[k] for k in kept), system.rests), pairs):
                    good.append(kept)
        return tuple(sorted(kept for kept in good if not any(set(kept) < set(other) for other in good)))

    def test_examples(self):
        system = read("names x y z", "x + y - z = 0", "x - y = 1", "x - y = 0", "x + y + z = 0")
        self.assertEqual(keepable(system), ((0,), (2,)))
        self.assertEqual(keepable(System(("x",), ())), ((),))
        self.assertEqual(keepable(System(("x",), (((1,), 2), ((1,), 3), ((2,), 4)))), ((0, 2), (1,)))
        self.assertEqual(keepable(System(("x", "y"), (((1, -1), 0),), (((1, 0), 1, 2), ((0, 1), 0, 2)))), ())
        self.assertEqual(keepable(System(("x", "y"), (), (((1, 0), 1, 2), ((0, 1), 0, 2)))), ())
        self.assertEqual(keepable(System(("x",), (((1,), 0),))), ((),))
        pair = System(("x", "y"), (((1, -1), 0), ((2, -2), 0), ((0, 0), 0)))
        self.assertEqual(keepable(pair), ((0, 1, 2),))
        self.assertEqual(keepable(system=pair, unlike=(("x", "y"),)), ((2,),))

    def test_many_by_all_sets_of_rows(self):
        rng = random.Random(551)
        seen = {}
        for k in range(400):
            make = likely_system if k % 4 else random_system
            system = make(rng, rng.randint(1, 4), rng.randint(0, 4), rng.randint(0, 2), 2)
            pairs = random_pairs(rng, system.names, 3) if k % 2 else ()
            before = parts_of(system)
            told = keepable(system, unlike=pairs)
            self.assertEqual(told, self.expected(system, pairs), (str(system), pairs))
            self.assertEqual(parts_of(system), before)
            seen[len(told)] = seen.get(len(told), 0) + 1
        self.assertGreater(min(seen[0], seen[1], seen[2]), 15)
        self.assertGreater(sum(many for size, many in seen.items() if size > 2), 5)

    def test_many_rows(self):
        rows = tuple(((1,), k % 3 + 1) for k in range(24))
        self.assertEqual(keepable(System(("x",), rows)), tuple(tuple(range(k, 24, 3)) for k in range(3)))
        self.assertEqual(keepable(System(("x", "y"), (((1, -1), 0),) * 24)), (tuple(range(24)),))


class ModuloVerdictTest(unittest.TestCase):
    def test_examples(self):
        self.assertEqual(modulo_verdict(read("names x y", "x - y = -1")), ("modulo", 2))
        self.assertEqual(modulo_verdict(read("names x y z", "x + y - z = 2")), ("alike", 2))
        told = modulo_verdict(system=read("names x y z", "x + y - 3 z = 0"))
        self.assertEqual(told[:2], ("ahead", 0))
        word, row = modulo_verdict(read("names x y z", "x + y + z = 0"))
        self.assertEqual((word, set(row)), ("weights", {row[0]}))
        self.assertEqual(modulo_verdict(read("names x", "x = 0"))[0], "weights")
        self.assertEqual(modulo_verdict(read("names x y", "x - y = 0", "y = 0 mod 4")), ("alike", 4))
        self.assertEqual(modulo_verdict(read("names x y", "2 x - y = -3", "x + y = 0 mod 6"))[:2], ("ahead", -3))

    def test_many(self):
        rng = random.Random(561)
        seen = {}
        for k in range(600):
            width = rng.randint(1, 6)
            make = likely_system if k % 3 else random_system
            system = make(rng, width, rng.randint(0, 4), rng.randint(0, 2))
            told = modulo_verdict(system)
            found = alike_in_reach(system)
            seen[told[0]] = seen.get(told[0], 0) + 1
            if not found or found[-1] >= 1:
                self.assertEqual(told, verdict(system))
            else:
                self.assertIn(told[0], ("ahead", "weights"))
                self.assertTrue(is_modulo_verdict(system, told), (str(system), told))
            if told[0] == "ahead":
                self.assertEqual(told[1], found[0])
                self.look_at_remainders(system, told)
            elif told[0] == "weights":
                self.assertFalse(any(solutions(system, (), 4)))
        self.assertGreater(min(seen[word] for word in ("modulo", "alike", "ahead", "weights")), 25)

    def look_at_remainders(self, system, told):
        _, number, move = told
        for modulus in (1, 2, 3, 10, 97, 10 ** 20):
            numbers = [number + entry * modulus * (abs(number) + 1) for entry in move]
            self.assertGreater(min(numbers), 0)
            self.assertTrue(fulfils(system.rows, system.rests, numbers))
            self.assertEqual(len({Sorter.modulo(modulus)(one) for one in numbers}), 1)


if __name__ == "__main__":
    unittest.main()
