"""Points 12, 13 and 14: last digits, clear primes, and sorters."""

import itertools
import math
import random
import unittest

from tests.oracles import NAMES, digits_of, is_clear as is_clear_by_minors, likely_system, parts_of, primes
from whateverboxes.bars import Sorter, clear_prime, is_clear, last_digit
from whateverboxes.machines import Machine
from whateverboxes.systems import System

PRIMES = primes(200)


def last_by_digits(number, base):
    return next(digit for digit in digits_of(number, base) if digit)


class LastDigitTest(unittest.TestCase):
    def test_examples(self):
        self.assertEqual(last_digit(1, 2), 1)
        self.assertEqual(last_digit(10, 5), 2)
        self.assertEqual(last_digit(1200, 10), 2)
        self.assertEqual(last_digit(number=90, base=3), 1)
        self.assertEqual(last_digit(7, 1000000), 7)
        self.assertEqual(last_digit(7 * 10 ** 96, 1000000), 7)
        self.assertEqual(last_digit(7 * 10 ** 95, 1000000), 700000)

    def test_small_numbers(self):
        for base in range(2, 40):
            for number in range(1, 500):
                told = last_digit(number, base)
                self.assertEqual(told, last_by_digits(number, base))
                self.assertIs(type(told), int)
                self.assertTrue(1 <= told < base)

    def test_as_it_is_written(self):
        for number in range(1, 3000):
            self.assertEqual(str(last_digit(number, 10)), str(number).rstrip("0")[-1])
            self.assertEqual(last_digit(number, 2), 1)
            self.assertEqual(f"{last_digit(number, 16):x}", f"{number:x}".rstrip("0")[-1])

    def test_great_numbers_and_bases(self):
        rng = random.Random(301)
        for _ in range(300):
            base = rng.choice((2, 3, 6, 10, 12, 97, 1000, 999983, 1000000, rng.randint(2, 10 ** 6)))
            number = rng.randint(1, 10 ** rng.randint(1, 100))
            self.assertEqual(last_digit(number, base), last_by_digits(number, base))
            times = rng.randrange(10)
            self.assertEqual(last_digit(number * base ** times, base), last_by_digits(number, base))

    def test_powers_and_their_neighbours(self):
        for base in (2, 3, 4, 7, 10, 30, 1000, 999999, 1000000):
            power = 1
            while power < 10 ** 100:
                self.assertEqual(last_digit(power, base), 1)
                self.assertEqual(last_digit((base - 1) * power, base), base - 1)
                if power > 1:
                    self.assertEqual(last_digit(power + 1, base), 1)
                    self.assertEqual(last_digit(power - 1, base), base - 1)
                power *= base


class ClearTest(unittest.TestCase):
    def test_examples(self):
        system = System.read("names x y z\nx + y - 3 z = 0")
        self.assertEqual([prime for prime in PRIMES if not is_clear(system, prime)], [2, 3])
        self.assertEqual(clear_prime(system), 5)
        self.assertIs(is_clear(system=system, prime=3), False)
        self.assertIs(is_clear(prime=5, system=system), True)
        self.assertEqual(clear_prime(system=System.read("names x y z\nx + y + z = 0")), 5)
        self.assertEqual(clear_prime(System.read("names x y\n2 x - y = -3")), 3)

    def test_without_rows_all_primes_are_clear(self):
        for system in (System(("x",), ()), System(NAMES, ()), System(("x", "y"), (((0, 0), 3),)),
                       System(("x", "y"), (), (((1, 1), 1, 6),))):
            self.assertEqual(clear_prime(system), 2)
            for prime in PRIMES + [999983, 2 ** 61 - 1]:
                self.assertIs(is_clear(system, prime), True)

    def test_one_row(self):
        # Of one plain row a prime is clear if it divides no factor and no sum of factors but those that are 0.
        rng = random.Random(311)
        for _ in range(100):
            width = rng.randint(1, 6)
            factors = tuple(rng.randint(-9, 9) for _ in range(width))
            plain = [a // (math.gcd(*factors) or 1) for a in factors]
            sums = [sum(part) for size in range(1, width + 1) for part in itertools.combinations(plain, size)]
            system = System(NAMES[:width], ((tuple(3 * a for a in factors), 7),))
            for prime in PRIMES[:10]:
                self.assertIs(is_clear(system, prime), all(total == 0 or total % prime for total in sums))
            least = next(prime for prime in PRIMES if all(total == 0 or total % prime for total in sums))
            self.assertEqual(clear_prime(system), least)

    def test_many_by_minors(self):
        rng = random.Random(312)
        seen = {True: 0, False: 0}
        for _ in range(120):
            width = rng.randint(2, 4)
            system = likely_system(rng, width, rng.randint(1, 3), rng.randint(0, 1), 6)
            before = parts_of(system)
            for prime in rng.sample(PRIMES[:6], 4) + [rng.choice(PRIMES)]:
                told = is_clear(system, prime)
                self.assertIs(told, is_clear_by_minors(system, prime))
                seen[told] += 1
            found = clear_prime(system)
            self.assertIs(type(found), int)
            self.assertEqual(found, next(prime for prime in PRIMES if is_clear_by_minors(system, prime)))
            self.assertEqual(parts_of(system), before)
        self.assertGreater(min(seen.values()), 100)

    def test_five_names_with_three_rows(self):
        rng = random.Random(313)
        for _ in range(6):
            rows = tuple((tuple(rng.randint(-9, 9) for _ in range(5)), 0) for _ in range(3))
            system = System(NAMES[:5], rows)
            for prime in rng.sample(PRIMES[:20], 3):
                self.assertIs(is_clear(system, prime), is_clear_by_minors(system, prime))
            found = clear_prime(system)
            self.assertTrue(is_clear_by_minors(system, found))
            for prime in rng.sample([prime for prime in PRIMES if prime < found], min(3, PRIMES.index(found))):
                self.assertFalse(is_clear_by_minors(system, prime))

    def test_great_entries(self):
        product = 1
        for k, prime in enumerate(PRIMES[:40]):
            product *= prime
            # The sum of both factors is 1, so only the first one counts, and it has all primes so far.
            system = System(("x", "y"), (((product, 1 - product), 0),))
            expected = next(one for one in PRIMES if product % one and (1 - product) % one)
            self.assertEqual(clear_prime(system), expected)
            self.assertGreater(expected, prime)
            for one in PRIMES[:k + 1]:
                self.assertIs(is_clear(system, one), False)
            self.assertIs(is_clear(system, expected), True)
        rows = (((10 ** 12 + 39, 10 ** 9 + 7, 1), 0), ((3, 10 ** 15 + 37, 5), 0))
        system = System(("x", "y", "z"), rows)
        self.assertIs(is_clear(system, 10 ** 9 + 9), is_clear_by_minors(system, 10 ** 9 + 9))
        self.assertIs(is_clear(System(("x", "y"), (((10 ** 9 + 7, 1), 0),)), 10 ** 9 + 7), False)
        self.assertIs(is_clear(System(("x", "y"), (((10 ** 9 + 7, 1), 0),)), 10 ** 9 + 9), True)

    def test_all_systems_within_the_limits_come_to_an_end(self):
        rng = random.Random(314)
        for count in (1, 2, 3, 4, 4, 4):
            rows = tuple((tuple(rng.randint(-9, 9) for _ in range(6)), rng.randint(-40, 40)) for _ in range(count))
            system = System(NAMES, rows)
            found = clear_prime(system)
            self.assertIs(is_clear(system, found), True)
            for prime in PRIMES[:PRIMES.index(found)]:
                self.assertIs(is_clear(system, prime), False)


class SorterTest(unittest.TestCase):
    def test_modulo(self):
        for modulus in list(range(1, 30)) + [10 ** 30 + 57]:
            for sorter in (Sorter.modulo(modulus), Sorter.modulo(modulus=modulus)):
                self.assertEqual(sorter.boxes, modulus)
                for number in list(range(1, 70)) + [10 ** 39 + 7, 10 ** 40 - 1]:
                    self.assertEqual(sorter(number), number % modulus)
                self.assertEqual(sorter(number=8), 8 % modulus)

    def test_digits(self):
        for prime in primes(23):
            sorter = Sorter.digits(prime)
            self.assertEqual(sorter.boxes, prime - 1)
            for number in list(range(1, 200)) + [10 ** 39 + 7, prime ** 20, 10 ** 40 - 1]:
                self.assertEqual(sorter(number), last_by_digits(number, prime) - 1)

    def test_digits_behind_a_bound(self):
        for prime in (2, 3, 5, 11):
            for after in (-50, -7, -1, 0, 1, 2, 9, 40):
                for sorter in (Sorter.digits(prime, after=after), Sorter.digits(after=after, prime=prime)):
                    own = after if after > 0 else 0
                    self.assertEqual(sorter.boxes, own + prime - 1)
                    for number in list(range(1, 120)) + [10 ** 39 + 7, after + prime ** 30]:
                        box = sorter(number)
                        self.assertIs(type(box), int)
                        if 1 <= number <= after:
                            self.assertEqual(box, number - 1)
                        elif number > 0:
                            self.assertEqual(box, own + last_by_digits(number - after, prime) - 1)
        told = Sorter.digits(3, after=2)
        self.assertEqual((told.boxes, [told(number) for number in range(1, 6)]), (4, [0, 1, 2, 3, 2]))
        self.assertEqual(Sorter.digits(5)(10), 1)

    def test_the_bound_is_passed_by_name_only(self):
        with self.assertRaises(TypeError):
            Sorter.digits(3, 2)

    def test_products(self):
        rng = random.Random(321)
        made = [Sorter.modulo(rng.randint(1, 9)) for _ in range(4)]
        made += [Sorter.digits(prime, after=rng.randint(-5, 5)) for prime in (2, 3, 5, 7)]
        made += [Machine.last(7).sorter(), (Machine.modulo(3, 4) * Machine.sums(3, 5)).sorter()]
        numbers = list(range(1, 60)) + [rng.randint(1, 10 ** 40) for _ in range(5)]
        for one, two in itertools.product(made, repeat=2):
            both = one * two
            self.assertIs(type(both), Sorter)
            self.assertEqual(both.boxes, one.boxes * two.boxes)
            for number in numbers:
                self.assertEqual(both(number), one(number) * two.boxes + two(number))
        for _ in range(60):
            one, two, three = rng.choice(made), rng.choice(made), rng.choice(made)
            boxes = one.boxes, two.boxes, three.boxes
            left, right = one * two * three, one * (two * three)
            self.assertEqual(left.boxes, one.boxes * two.boxes * three.boxes)
            self.assertEqual(right.boxes, left.boxes)
            for number in numbers:
                expected = (one(number) * two.boxes + two(number)) * three.boxes + three(number)
                self.assertEqual((left(number), right(number)), (expected, expected))
            self.assertEqual((one.boxes, two.boxes, three.boxes), boxes)

    def test_a_long_product(self):
        sorter = Sorter.modulo(2)
        for _ in range(2000):
            sorter = sorter * Sorter.modulo(2)
        self.assertEqual(sorter.boxes, 2 ** 2001)
        self.assertEqual(sorter(8), 0)
        self.assertEqual(sorter(7), 2 ** 2001 - 1)

    def test_each_box_is_there(self):
        for sorter in (Sorter.modulo(6), Sorter.digits(5), Sorter.digits(5, after=4), Sorter.modulo(2) * Sorter.digits(3)):
            self.assertEqual(sorted({sorter(number) for number in range(1, 100)}), list(range(sorter.boxes)))


if __name__ == "__main__":
    unittest.main()
