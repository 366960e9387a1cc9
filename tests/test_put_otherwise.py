"""Points 3 and 15 to 19: what must stay the same for systems that say the same, and for systems that are moved."""

import itertools
import random
import unittest

from tests.oracles import (likely_system, moved_by, put_otherwise, random_pairs, with_names_exchanged)
from whateverboxes.bars import clear_prime, is_clear
from whateverboxes.errors import NoForm
from whateverboxes.forms import alike, form, form_holds, reached
from whateverboxes.systems import System
from whateverboxes.verdicts import keepable, modulo_verdict, modulo_verdict_holds, verdict, verdict_holds


def some_system(rng):
    return likely_system(rng, rng.randint(1, 5), rng.randint(0, 3), rng.randint(0, 2))


def exchanged(row, system, other):
    """A row for the names of one system, put in the order of those of another one."""
    return tuple(row[system.names.index(name)] for name in other.names)


class PutOtherwiseTest(unittest.TestCase):
    def test_verdicts_of_systems_that_say_the_same(self):
        rng = random.Random(701)
        seen = {}
        for _ in range(400):
            system = some_system(rng)
            other = put_otherwise(rng, system)
            self.assertTrue(system.is_same(other))
            pairs = random_pairs(rng, system.names, 3)
            one, two = verdict(system, unlike=pairs), verdict(other, unlike=pairs)
            self.assertEqual(one[0], two[0])
            if one[0] != "form":
                self.assertEqual(one, two)
            else:
                self.assertEqual(len(form(system)[2]), len(form(other)[2]))
            for told in (one, two):
                self.assertIs(verdict_holds(system, told, unlike=pairs), True)
                self.assertIs(verdict_holds(other, told, unlike=pairs), True)
            seen[one[0]] = seen.get(one[0], 0) + 1
            more, again = modulo_verdict(system), modulo_verdict(other)
            self.assertEqual(more[0], again[0])
            self.assertIs(modulo_verdict_holds(other, more), True)
            self.assertIs(modulo_verdict_holds(system, again), True)
            self.assertEqual((alike(system), reached(system), clear_prime(system)),
                             (alike(other), reached(other), clear_prime(other)))
        self.assertEqual(len(seen), 5)
        self.assertGreater(min(seen.values()), 15)

    def test_names_in_another_order(self):
        rng = random.Random(702)
        seen = {}
        for _ in range(300):
            system = some_system(rng)
            other = with_names_exchanged(rng, system)
            pairs = random_pairs(rng, system.names, 3)
            one, two = verdict(system, unlike=pairs), verdict(other, unlike=pairs)
            self.assertEqual(one[0], two[0])
            seen[one[0]] = seen.get(one[0], 0) + 1
            if one[0] == "form":
                factor, fronts, moves = one[2]
                moved = factor, exchanged(fronts, system, other), tuple(exchanged(move, system, other) for move in moves)
                self.assertIs(verdict_holds(other, ("form", one[1], moved), unlike=pairs), True)
                self.assertEqual(len(form(system)[2]), len(form(other)[2]))
            else:
                self.assertEqual(one, two)
            self.assertEqual(modulo_verdict(system)[0], modulo_verdict(other)[0])
            self.assertEqual((alike(system), clear_prime(system)), (alike(other), clear_prime(other)))
            self.assertEqual(keepable(system, unlike=pairs), keepable(other, unlike=pairs))
        self.assertEqual(len(seen), 5)

    def test_other_names(self):
        rng = random.Random(703)
        for _ in range(100):
            system = some_system(rng)
            names = {"x": "y", "y": "x", "z": "zz9"}
            other = system.renamed(**{name: names.get(name, name) for name in system.names if len(system.names) > 1})
            one, two = verdict(system), verdict(other)
            self.assertEqual(one, two)
            self.assertEqual(modulo_verdict(system), modulo_verdict(other))


class MovedTest(unittest.TestCase):
    def test_all_that_fulfils_moved_by_one_integer(self):
        rng = random.Random(711)
        seen = {}
        for _ in range(400):
            system = some_system(rng)
            number = rng.choice((-7, -1, 1, 2, 13, 10 ** 20))
            other = moved_by(system, number)
            found, moved = alike(system), alike(other)
            self.assertEqual(len(found), len(moved))
            if len(found) == 1:
                self.assertEqual(moved[0], found[0] + number)
            elif found:
                self.assertEqual((moved[1], (moved[0] - found[0] - number) % found[1]), (found[1], 0))
            self.assertEqual((reached(system), clear_prime(system)), (reached(other), clear_prime(other)))
            if len(system.names) < 2:
                continue
            # With a pair no number that is alike is a verdict, so the word does not hang on where the numbers begin.
            pairs = (tuple(rng.sample(system.names, 2)),)
            one, two = verdict(system, unlike=pairs), verdict(other, unlike=pairs)
            self.assertEqual(one[0], two[0])
            seen[one[0]] = seen.get(one[0], 0) + 1
            if one[0] == "digits":
                self.assertEqual(two, ("digits", one[1] + number, one[2]))
            elif one[0] == "form":
                self.assertEqual((form_holds(other, one[2]), form_holds(system, two[2])), (True, True))
                self.assertIs(verdict_holds(other, ("form", one[1] + number, one[2]), unlike=pairs), True)
            else:
                self.assertEqual(one, two)
        self.assertEqual(sorted(seen), ["digits", "form", "modulo", "never"])
        self.assertGreater(min(seen.values()), 15)

    def test_without_pairs_the_word_says_on_which_side_the_alike_integer_is(self):
        rng = random.Random(712)
        count = 0
        for _ in range(300):
            system = some_system(rng)
            found = alike(system)
            if len(found) != 1:
                continue
            count += 1
            for number in (-2, -1, 0, 1, 2):
                other = moved_by(system, number - found[0])
                told = verdict(other)
                if number >= 1:
                    self.assertEqual(told, ("alike", number))
                else:
                    self.assertEqual(told[0], "form" if reached(system) == system.names else "digits")
                    self.assertEqual(told[1], number)
        self.assertGreater(count, 60)


class EqualNamesTest(unittest.TestCase):
    def test_never_is_right_just_where_the_entries_are_always_the_same(self):
        rng = random.Random(721)
        seen = {True: 0, False: 0}
        for _ in range(300):
            system = some_system(rng)
            for one, two in itertools.permutations(system.names, 2):
                pairs = ((one, two),)
                tied = system.equate(one, two)
                right = verdict_holds(system, ("never", one, two), unlike=pairs)
                self.assertIs(right, system.brings(tied))
                self.assertIs(verdict_holds(tied, ("never", one, two), unlike=pairs), True)
                told = verdict(tied, unlike=pairs)
                self.assertEqual(told, ("never", one, two) if alike(tied) else verdict(tied))
                self.assertEqual(alike(tied), alike(system))
                seen[right] += 1
        self.assertGreater(min(seen.values()), 100)

    def test_the_first_pair_that_is_tied_is_told(self):
        system = System(("x", "y", "z", "u"), (((1, -1, 0, 0), 0), ((0, 0, 1, -1), 0)))
        for pairs, expected in (((("x", "z"), ("u", "z"), ("x", "y")), ("never", "u", "z")),
                                ((("y", "x"), ("z", "u")), ("never", "y", "x")),
                                ((("y", "x"), ("x", "y")), ("never", "y", "x")),
                                ((("z", "x"), ("x", "y"), ("x", "y")), ("never", "x", "y"))):
            self.assertEqual(verdict(system, unlike=pairs), expected)
        self.assertEqual(verdict(system, unlike=(("x", "z"), ("y", "u")))[0], "form")


class MoreRowsTest(unittest.TestCase):
    def test_more_rows_never_make_a_system_sure(self):
        rng = random.Random(731)
        for _ in range(150):
            system = some_system(rng)
            pairs = random_pairs(rng, system.names, 2)
            for k in range(len(system.rows)):
                if verdict(system, unlike=pairs)[0] in ("alike", "form"):
                    self.assertIn(verdict(system.without(k), unlike=pairs)[0], ("alike", "form"))

    def test_a_clear_prime_of_a_system_that_says_the_same(self):
        rng = random.Random(732)
        for _ in range(100):
            system = some_system(rng)
            other = put_otherwise(rng, system)
            for prime in (2, 3, 5, 7, 11, 13, 999983):
                self.assertIs(is_clear(system, prime), is_clear(other, prime))

    def test_no_form_for_either_or_for_both(self):
        rng = random.Random(733)
        for _ in range(100):
            system = some_system(rng)
            other = put_otherwise(rng, system)
            try:
                made = form(system)
            except NoForm as error:
                with self.assertRaises(NoForm) as held:
                    form(other)
                self.assertEqual(held.exception.reached, error.reached)
            else:
                self.assertIs(form_holds(other, made), True)


if __name__ == "__main__":
    unittest.main()
