"""Point 4: ranks, Hermite forms and kernels of tables."""

import random
import unittest

from tests.oracles import (belongs, box, common_divisor, has_hermite_shape, mixed, random_form, random_table,
                           rank_by_minors)
from whateverboxes.tables import dot, hermite, kernel, measures, rank, rank_modulo

PRIMES = tuple(p for p in range(2, 1000) if all(p % k for k in range(2, p)))


def random_dependent(rng, count, width, bound):
    """A table some of whose rows are sums of multiples of others."""
    rows = list(random_table(rng, count, width, bound))
    for k in range(1, count):
        if rng.randrange(2):
            one, two = rng.randrange(k), rng.randrange(k)
            times, more = rng.randint(-3, 3), rng.randint(-3, 3)
            rows[k] = tuple(times * a + more * b for a, b in zip(rows[one], rows[two]))
    rng.shuffle(rows)
    return tuple(rows)


class RankTest(unittest.TestCase):
    def test_examples(self):
        self.assertEqual(rank(()), 0)
        self.assertEqual(rank(((0,),)), 0)
        self.assertEqual(rank(((5,),)), 1)
        self.assertEqual(rank(((1, 2), (2, 4))), 1)
        self.assertEqual(rank(((1, 2), (2, 5))), 2)
        self.assertEqual(rank(((0, 0, 0), (0, 0, 0))), 0)
        self.assertEqual(rank(((0, 0, 3), (0, 2, 1), (0, 2, 4))), 2)
        self.assertEqual(rank(table=((1, 2), (2, 5))), 2)

    def test_ranks_by_minors(self):
        rng = random.Random(41)
        for _ in range(500):
            count, width = rng.randint(1, 4), rng.randint(1, 5)
            table = random_dependent(rng, count, width, rng.choice((1, 2, 9)))
            found = rank(table)
            self.assertIs(type(found), int)
            self.assertEqual(found, rank_by_minors(table))

    def test_ranks_of_great_tables(self):
        rng = random.Random(42)
        for bound in (1, 1000):
            for _ in range(8):
                table = random_dependent(rng, 6, 8, bound)
                self.assertEqual(rank(table), rank_by_minors(table))
        for _ in range(50):
            form = random_form(rng, rng.randint(0, 6), 8, 1000)
            self.assertEqual(rank(mixed(rng, form, 20)), len(form))

    def test_ranks_of_forms_with_great_entries(self):
        rng = random.Random(43)
        for _ in range(50):
            form = random_form(rng, rng.randint(1, 5), 6, 10 ** 40)
            table = mixed(rng, form, 12)
            self.assertEqual(rank(table), len(form))

    def test_rank_modulo_examples(self):
        self.assertEqual(rank_modulo((), 2), 0)
        self.assertEqual(rank_modulo(((6,),), 2), 0)
        self.assertEqual(rank_modulo(((6,),), 3), 0)
        self.assertEqual(rank_modulo(((6,),), 5), 1)
        self.assertEqual(rank_modulo(((1, 1), (1, -1)), 2), 1)
        self.assertEqual(rank_modulo(((1, 1), (1, -1)), 3), 2)
        self.assertEqual(rank_modulo(((997, 1), (0, 997)), 997), 1)
        self.assertEqual(rank_modulo(((-1, 996), (1, -996)), 997), 1)
        self.assertEqual(rank_modulo(((0, 5), (5, 3)), 5), 1)
        self.assertEqual(rank_modulo(table=((2, 1), (0, 2)), prime=2), 1)

    def test_rank_modulo_by_minors(self):
        rng = random.Random(44)
        for _ in range(500):
            count, width = rng.randint(1, 4), rng.randint(1, 5)
            table = random_dependent(rng, count, width, rng.choice((2, 9, 1000)))
            prime = rng.choice((2, 3, 5, 7, 11, 997))
            found = rank_modulo(table, prime)
            self.assertIs(type(found), int)
            self.assertEqual(found, rank_by_minors(table, prime))
            self.assertLessEqual(found, rank(table))

    def test_rank_modulo_every_prime(self):
        rng = random.Random(45)
        for prime in PRIMES:
            times = rng.randint(1, 1000 // prime)
            table = ((1, 2, 3), (prime * times, 0, prime), (2, 4 + prime, 6))
            self.assertEqual(rank_modulo(table, prime), 1)
            self.assertEqual(rank(table), rank_by_minors(table))
            one, two = rng.randint(1, prime - 1), rng.randint(1, prime - 1)
            self.assertEqual(rank_modulo(((one, 1), (0, two - prime)), prime), 2)

    def test_rank_modulo_of_great_tables(self):
        rng = random.Random(46)
        for prime in (2, 3, 7, 997):
            for _ in range(4):
                table = random_dependent(rng, 6, 8, 1000)
                self.assertEqual(rank_modulo(table, prime), rank_by_minors(table, prime))

    def test_rank_modulo_of_multiples_of_the_prime(self):
        rng = random.Random(47)
        for _ in range(200):
            prime = rng.choice((2, 3, 5, 31))
            table = random_table(rng, 3, 4, 9)
            dead = tuple(tuple(prime * entry for entry in row) for row in random_table(rng, 3, 4, 9))
            self.assertEqual(rank_modulo(dead, prime), 0)
            both = tuple(tuple(a + b for a, b in zip(*rows)) for rows in zip(table, dead))
            self.assertEqual(rank_modulo(both, prime), rank_by_minors(table, prime))


class HermiteTest(unittest.TestCase):
    def test_examples(self):
        self.assertEqual(hermite(((2, 4), (3, 5))), ((1, 1), (0, 2)))
        self.assertEqual(hermite(()), ())
        self.assertEqual(hermite(((0, 0), (0, 0))), ())
        self.assertEqual(hermite(((-3,),)), ((3,),))
        self.assertEqual(hermite(((4,), (6,))), ((2,),))
        self.assertEqual(hermite(((0, -2, 5),)), ((0, 2, -5),))
        self.assertEqual(hermite(((1, 7), (0, 3))), ((1, 1), (0, 3)))
        self.assertEqual(hermite(((1, -1), (0, 3))), ((1, 2), (0, 3)))
        self.assertEqual(hermite(((0, 3), (0, 0), (2, 6))), ((2, 0), (0, 3)))
        self.assertEqual(hermite(table=((2, 4), (3, 5))), ((1, 1), (0, 2)))

    def test_a_form_comes_back_from_every_table_of_its_group(self):
        rng = random.Random(51)
        for _ in range(600):
            width = rng.randint(1, 8)
            form = random_form(rng, rng.randint(0, min(width, 5)), width, rng.choice((1, 3, 12, 1000)))
            self.assertTrue(has_hermite_shape(form))
            self.assertEqual(hermite(form), form)
            self.assertEqual(hermite(mixed(rng, form, 15)), form)

    def test_forms_with_great_entries(self):
        rng = random.Random(52)
        for _ in range(60):
            form = random_form(rng, rng.randint(1, 5), 6, 10 ** 30)
            self.assertEqual(hermite(mixed(rng, form, 15)), form)

    def test_shape_and_group_of_any_table(self):
        rng = random.Random(53)
        for _ in range(400):
            count, width = rng.randint(1, 4), rng.randint(1, 5)
            table = random_dependent(rng, count, width, rng.choice((2, 9, 30)))
            form = hermite(table)
            self.assertTrue(has_hermite_shape(form))
            self.assertTrue(all(belongs(row, form) for row in table))
            size = rank_by_minors(table)
            self.assertEqual(len(form), size)
            # A group within another one of the same rank is the same if the minors have the same divisor.
            self.assertEqual(common_divisor(table, size), common_divisor(form, size))

    def test_great_tables(self):
        rng = random.Random(54)
        for _ in range(60):
            table = random_dependent(rng, 6, rng.randint(6, 8), 1000)
            form = hermite(table)
            self.assertTrue(has_hermite_shape(form))
            self.assertTrue(all(belongs(row, form) for row in table))
            self.assertEqual(hermite(form), form)
            self.assertEqual(hermite(tuple(reversed(table))), form)

    def test_zero_rows_double_rows_order_and_signs_do_not_matter(self):
        rng = random.Random(55)
        for _ in range(300):
            width = rng.randint(1, 6)
            table = random_dependent(rng, rng.randint(1, 3), width, 20)
            form = hermite(table)
            zero = (0,) * width
            self.assertEqual(hermite((zero,) + table + (zero,)), form)
            self.assertEqual(hermite(table + table), form)
            self.assertEqual(hermite(tuple(tuple(-a for a in row) for row in table)), form)
            self.assertEqual(hermite(tuple(rng.sample(table, len(table)))), form)

    def test_a_row_taken_twice_as_often_gives_another_group(self):
        rng = random.Random(56)
        for _ in range(200):
            width = rng.randint(1, 6)
            form = random_form(rng, rng.randint(1, min(width, 4)), width, 9)
            k = rng.randrange(len(form))
            other = tuple(tuple(2 * a for a in row) if j == k else row for j, row in enumerate(form))
            self.assertNotEqual(hermite(other), hermite(form))
            self.assertFalse(belongs(form[k], hermite(other)))

    def test_small_groups_by_going_through_multiples(self):
        rng = random.Random(57)
        for _ in range(60):
            table = random_table(rng, 2, 2, 3)
            form = hermite(table)
            inside = {tuple(a * one + b * two for one, two in zip(*table)) for a, b in box(2, -40, 40)}
            for row in box(2, -2, 2):
                self.assertEqual(belongs(row, form), row in inside, (table, row))


class KernelTest(unittest.TestCase):
    def test_examples(self):
        self.assertEqual(kernel(((1, 1, -3),), 3), ((1, 2, 1), (0, 3, 1)))
        self.assertEqual(kernel((), 2), ((1, 0), (0, 1)))
        self.assertEqual(kernel((), 1), ((1,),))
        self.assertEqual(kernel(((2, -2),), 2), ((1, 1),))
        self.assertEqual(kernel(((2, 4),), 2), ((2, -1),))
        self.assertEqual(kernel(((0, 0),), 2), ((1, 0), (0, 1)))
        self.assertEqual(kernel(((1, 0), (0, 1)), 2), ())
        self.assertEqual(kernel(((3,),), 1), ())
        self.assertEqual(kernel(table=((1, 1, -3),), width=3), ((1, 2, 1), (0, 3, 1)))

    def test_the_table_without_rows(self):
        for width in range(1, 9):
            units = tuple(tuple(int(j == k) for j in range(width)) for k in range(width))
            self.assertEqual(kernel((), width), units)

    def test_all_that_vanishes_in_a_box(self):
        rng = random.Random(61)
        for _ in range(250):
            width = rng.randint(1, 4)
            table = random_dependent(rng, rng.randint(1, 3), width, rng.choice((2, 6)))
            found = kernel(table, width)
            self.assertTrue(has_hermite_shape(found))
            self.assertEqual(len(found), width - rank_by_minors(table))
            for row in box(width, -3, 3):
                vanishes = all(sum(a * b for a, b in zip(one, row)) == 0 for one in table)
                self.assertEqual(belongs(row, found), vanishes, (table, row))

    def test_great_tables(self):
        rng = random.Random(62)
        for _ in range(60):
            width = rng.randint(1, 8)
            table = random_dependent(rng, rng.randint(1, 6), width, 1000)
            found = kernel(table, width)
            self.assertTrue(has_hermite_shape(found))
            self.assertEqual(len(found), width - rank(table))
            for row in found:
                self.assertTrue(all(sum(a * b for a, b in zip(one, row)) == 0 for one in table))
            # The group is whole: no row can be divided, since all minors of greatest size have no divisor.
            if 0 < len(found) <= 4:
                self.assertEqual(common_divisor(found, len(found)), 1)

    def test_the_kernel_depends_on_the_span_alone(self):
        rng = random.Random(63)
        for _ in range(100):
            width = rng.randint(1, 6)
            table = random_dependent(rng, rng.randint(1, 3), width, 9)
            found = kernel(table, width)
            self.assertEqual(kernel(tuple(tuple(3 * a for a in row) for row in table), width), found)
            self.assertEqual(kernel(table + ((0,) * width,), width), found)
            self.assertEqual(kernel(tuple(reversed(table)), width), found)


class MeasuresTest(unittest.TestCase):
    def test_measures_tell_what_belongs_to_the_group(self):
        rng = random.Random(71)
        for _ in range(250):
            width = rng.randint(1, 4)
            table = random_dependent(rng, rng.randint(0, 3), width, rng.choice((1, 3, 6)))
            form = hermite(table)
            found = measures(table, width)
            self.assertEqual(len(found), width)
            self.assertEqual(hermite(tuple(row for row, _ in found)), kernel((), width))
            for row in box(width, -3, 3):
                told = all(dot(row, one) % divisor == 0 if divisor else dot(row, one) == 0 for one, divisor in found)
                self.assertEqual(told, belongs(row, form), (table, row))


if __name__ == "__main__":
    unittest.main()
