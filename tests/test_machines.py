"""Point 21: machines that read digits."""

import itertools
import random
import unittest

from tests.oracles import digits_of
from whateverboxes.bars import Sorter, last_digit
from whateverboxes.errors import BadMachine, BoxError
from whateverboxes.machines import Machine

GREAT = (10 ** 30 + 7, 3 ** 60, 2 ** 100 - 1, 9 * 10 ** 39)


def walked(steps, digits):
    """The state to which the digits lead."""
    state = 0
    for digit in digits:
        state = steps[state][digit]
    return state


def reached_states(base, steps):
    """The reached states, grown from 0 until nothing more comes."""
    found = {0}
    while True:
        more = {steps[state][digit] for state in found for digit in range(base)}
        if more <= found:
            return found
        found |= more


def random_steps(rng, base, count):
    """Steps of so many states, of which some are often not reached."""
    high = rng.randint(1, count)
    return tuple(tuple(rng.randrange(high if state < high else count) for _ in range(base)) for state in range(count))


def good_boxes(rng, base, steps):
    """Boxes that zeros ahead do not change, but for states that are not reached."""
    boxes = [rng.randint(0, 50) for _ in steps]
    given = [rng.randrange(5) for _ in steps]
    for state in reached_states(base, steps):
        # Zeros lead from each state into a cycle; the least state of the cycle gives the box.
        at = state
        for _ in steps:
            at = steps[at][0]
        cycle = [at]
        while steps[cycle[-1]][0] not in cycle:
            cycle.append(steps[cycle[-1]][0])
        boxes[state] = given[min(cycle)]
    return tuple(boxes)


def random_machine(rng, base=None, most=8):
    base = base or rng.randint(2, 10)
    steps = random_steps(rng, base, rng.randint(1, most))
    return Machine(base, steps, good_boxes(rng, base, steps))


class MadeTest(unittest.TestCase):
    def test_attributes_are_kept_as_passed(self):
        steps, boxes = ((0, 1), (1, 0)), (3, 1)
        for machine in (Machine(2, steps, boxes), Machine(base=2, steps=steps, boxes=boxes)):
            self.assertEqual(machine.base, 2)
            self.assertIs(machine.steps, steps)
            self.assertIs(machine.boxes, boxes)
            self.assertEqual(machine.many, 4)
            self.assertEqual([machine(number) for number in range(1, 9)], [1, 1, 3, 1, 3, 3, 1, 1])
            self.assertEqual(machine(number=3), 3)

    def test_many_counts_reached_states_alone(self):
        self.assertEqual(Machine(2, ((0, 0), (0, 1)), (2, 9)).many, 3)
        self.assertEqual(Machine(2, ((0, 1), (1, 1), (2, 2)), (0, 4, 70)).many, 5)
        self.assertEqual(Machine(3, ((0, 0, 0),), (0,)).many, 1)

    def test_random_machines(self):
        rng = random.Random(401)
        unreached = 0
        for _ in range(300):
            machine = random_machine(rng)
            inside = reached_states(machine.base, machine.steps)
            unreached += len(inside) < len(machine.steps)
            self.assertEqual(machine.many, max(machine.boxes[state] for state in inside) + 1)
            for number in list(range(1, 60)) + [rng.randint(1, 10 ** 40)]:
                digits = digits_of(number, machine.base)
                box = machine(number)
                self.assertEqual(box, machine.boxes[walked(machine.steps, digits)])
                self.assertTrue(0 <= box < machine.many)
                for zeros in (1, 2, 5, 17):
                    self.assertEqual(machine.boxes[walked(machine.steps, digits + [0] * zeros)], box)
        self.assertGreater(unreached, 60)


class BadMachineTest(unittest.TestCase):
    def test_examples(self):
        for base, steps, boxes, state in (
                (2, ((1, 0), (1, 1)), (0, 1), 0),
                (2, ((0, 1), (0, 1)), (0, 1), 1),
                (2, ((0, 2), (0, 0), (1, 2)), (0, 5, 7), 1),
                (3, ((0, 2, 2), (1, 1, 1), (1, 2, 2)), (0, 3, 4), 2)):
            with self.assertRaises(BadMachine) as held:
                Machine(base, steps, boxes)
            self.assertEqual(held.exception.state, state)
            self.assertIsInstance(held.exception, BoxError)

    def test_states_that_are_not_reached_do_not_matter(self):
        machine = Machine(2, ((0, 0), (0, 1), (1, 1)), (0, 1, 2))
        self.assertEqual(machine.many, 1)
        self.assertEqual(machine(5), 0)
        self.assertEqual(Machine(base=2, steps=((0, 2), (0, 1), (2, 2)), boxes=(0, 3, 1)).many, 2)

    def test_many(self):
        rng = random.Random(411)
        seen = {True: 0, False: 0}
        for _ in range(600):
            base, count = rng.randint(2, 10), rng.randint(1, 6)
            steps = random_steps(rng, base, count)
            boxes = list(good_boxes(rng, base, steps))
            if rng.randrange(2):
                boxes[rng.randrange(count)] = rng.randrange(4)
            bad = [state for state in sorted(reached_states(base, steps)) if boxes[state] != boxes[steps[state][0]]]
            seen[bool(bad)] += 1
            if bad:
                with self.assertRaises(BadMachine) as held:
                    Machine(base, steps, tuple(boxes))
                self.assertEqual(held.exception.state, bad[0])
            else:
                Machine(base, steps, tuple(boxes))
        self.assertGreater(min(seen.values()), 60)

    def test_what_is_reached_late(self):
        steps = tuple((k, k, min(k + 1, 39)) for k in range(39)) + ((38, 39, 39),)
        with self.assertRaises(BadMachine) as held:
            Machine(3, steps, (0,) * 39 + (1,))
        self.assertEqual(held.exception.state, 39)
        self.assertEqual(Machine(3, steps[:38] + ((38, 38, 38), (38, 39, 39)), (0,) * 39 + (1,)).many, 1)


class KindsTest(unittest.TestCase):
    def look(self, machine, base, many, expected):
        self.assertIs(type(machine), Machine)
        self.assertEqual(machine.base, base)
        self.assertEqual(machine.many, many)
        self.assertEqual(machine.boxes[0], 0)
        self.assertEqual(len(machine.steps), len(machine.boxes))
        for row in machine.steps:
            self.assertEqual(len(row), base)
        for number in list(range(1, 250)) + list(GREAT):
            self.assertEqual(machine(number), expected(number))
            digits = digits_of(number, base)
            for zeros in (0, 1, 2, 7):
                self.assertEqual(machine.boxes[walked(machine.steps, digits + [0] * zeros)], expected(number))
        again = Machine(machine.base, machine.steps, machine.boxes)
        self.assertEqual(again.many, many)

    def test_modulo(self):
        for base in range(2, 11):
            for modulus in range(1, 13):
                self.look(Machine.modulo(base, modulus), base, modulus, lambda number: number % modulus)
        self.look(Machine.modulo(modulus=4, base=3), 3, 4, lambda number: number % 4)

    def test_sums(self):
        for base in range(2, 11):
            for modulus in range(1, 13):
                self.look(Machine.sums(base, modulus), base, modulus,
                          lambda number: sum(digits_of(number, base)) % modulus)
        self.look(Machine.sums(modulus=4, base=3), 3, 4, lambda number: sum(digits_of(number, 3)) % 4)

    def test_last_and_first(self):
        for base in range(2, 11):
            last = lambda number: next(digit for digit in digits_of(number, base) if digit) - 1
            first = lambda number: digits_of(number, base)[-1] - 1
            for machine in (Machine.last(base), Machine.last(base=base)):
                self.look(machine, base, base - 1, last)
            for machine in (Machine.first(base), Machine.first(base=base)):
                self.look(machine, base, base - 1, first)


class ProductTest(unittest.TestCase):
    def machines(self, rng, base):
        return [Machine.modulo(base, rng.randint(1, 6)), Machine.last(base), Machine.first(base),
                Machine.sums(base, rng.randint(1, 5)), random_machine(rng, base), random_machine(rng, base, 3)]

    def test_products_of_two(self):
        rng = random.Random(421)
        for base in range(2, 11):
            for one, two in itertools.product(self.machines(rng, base), repeat=2):
                before = (one.base, one.steps, one.boxes, one.many), (two.base, two.steps, two.boxes, two.many)
                both = one * two
                self.assertIs(type(both), Machine)
                self.assertEqual(both.base, base)
                boxes = [one(number) * two.many + two(number) for number in range(1, 80)]
                self.assertEqual([both(number) for number in range(1, 80)], boxes)
                self.assertGreater(both.many, max(boxes))
                self.assertEqual(both.boxes[0], one.boxes[0] * two.many + two.boxes[0])
                inside = [both.boxes[state] for state in reached_states(base, both.steps)]
                self.assertEqual(both.many, max(inside) + 1)
                for number in GREAT:
                    self.assertEqual(both(number), one(number) * two.many + two(number))
                    digits = digits_of(number, base) + [0] * 3
                    self.assertEqual(both.boxes[walked(both.steps, digits)], both(number))
                self.assertEqual(before, ((one.base, one.steps, one.boxes, one.many),
                                          (two.base, two.steps, two.boxes, two.many)))

    def test_many_of_a_product_counts_reached_pairs_alone(self):
        # Both are in their last box just together, so the product has fewer boxes than the pairs.
        one, two = Machine.modulo(2, 2), Machine.modulo(2, 4)
        self.assertEqual((one * two).many, 8)
        self.assertEqual((one * one).many, 4)
        lower = Machine(2, ((0, 1), (1, 1)), (1, 0))
        self.assertEqual((lower * Machine(2, ((0, 1), (1, 1)), (0, 1))).many, 3)
        self.assertEqual([(lower * Machine(2, ((0, 1), (1, 1)), (0, 1)))(number) for number in (1, 2, 3)], [1, 1, 1])

    def test_products_of_products(self):
        rng = random.Random(422)
        for _ in range(25):
            base = rng.randint(2, 10)
            one, two, three, four = [rng.choice(self.machines(rng, base)) for _ in range(4)]
            left, right = one * two, three * four
            whole, chain = left * right, left * three * four
            for number in list(range(1, 60)) + list(GREAT):
                self.assertEqual(whole(number), left(number) * right.many + right(number))
                inner = (one(number) * two.many + two(number)) * three.many + three(number)
                self.assertEqual((left * three)(number), inner)
                self.assertEqual(chain(number), inner * four.many + four(number))

    def test_great_products(self):
        whole = Machine.modulo(10, 7) * Machine.modulo(10, 11) * Machine.sums(10, 9) * Machine.last(10)
        for number in list(range(1, 60)) + list(GREAT):
            expected = ((number % 7 * 11 + number % 11) * 9 + number % 9) * 9 + last_digit(number, 10) - 1
            self.assertEqual(whole(number), expected)


class SorterTest(unittest.TestCase):
    def test_sorters(self):
        rng = random.Random(431)
        for _ in range(60):
            machine = random_machine(rng)
            sorter = machine.sorter()
            self.assertIs(type(sorter), Sorter)
            self.assertEqual(sorter.boxes, machine.many)
            for number in list(range(1, 60)) + list(GREAT):
                self.assertEqual(sorter(number), machine(number))
        sorter = Machine.last(5).sorter() * Sorter.modulo(4) * Machine.first(3).sorter()
        self.assertEqual(sorter.boxes, 4 * 4 * 2)
        for number in range(1, 60):
            expected = ((last_digit(number, 5) - 1) * 4 + number % 4) * 2 + digits_of(number, 3)[-1] - 1
            self.assertEqual(sorter(number), expected)

    def test_the_same_boxes_as_the_sorters_of_other_kinds(self):
        for prime in (2, 3, 5, 7):
            one, two = Sorter.digits(prime), Machine.last(prime)
            self.assertEqual((one.boxes, two.sorter().boxes), (prime - 1, two.many))
            for number in list(range(1, 300)) + list(GREAT):
                self.assertEqual(one(number), two(number))
                self.assertEqual(two(number), last_digit(number, prime) - 1)
        for base in range(2, 11):
            for modulus in range(1, 13):
                one, two = Sorter.modulo(modulus), Machine.modulo(base, modulus)
                self.assertEqual(one.boxes, two.many)
                for number in list(range(1, 100)) + list(GREAT):
                    self.assertEqual(one(number), two(number))

    def test_products_agree(self):
        for base in (2, 3, 5, 7):
            for modulus in range(1, 8):
                pair = Machine.last(base) * Machine.modulo(base, modulus)
                other = Machine.modulo(base, modulus) * Machine.last(base)
                for number in list(range(1, 150)) + list(GREAT):
                    self.assertEqual(pair(number), (Sorter.digits(base) * Sorter.modulo(modulus))(number))
                    self.assertEqual(other(number), (Sorter.modulo(modulus) * Sorter.digits(base))(number))
                    self.assertEqual(pair.sorter()(number),
                                     (Machine.last(base).sorter() * Machine.modulo(base, modulus).sorter())(number))


if __name__ == "__main__":
    unittest.main()
