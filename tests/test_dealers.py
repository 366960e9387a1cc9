"""Point 27: dealers."""

import itertools
import random
import unittest

from tests.oracles import NAMES, likely_system, parts_of, random_pairs, random_system
from tests.searches import all_solutions, holds_solution, is_dealing, is_solution
from tests.test_dealings import APART, EVERY, PAIR, STEPS, SUM
from whateverboxes.dealers import Dealer
from whateverboxes.dealings import dealing
from whateverboxes.errors import BoxError, Dealt, NothingDealt, Solved
from whateverboxes.systems import System


class Model:
    """What a dealer must do, by trying all tuples of numbers."""

    def __init__(self, system, boxes, pairs):
        self.system = system
        self.boxes = boxes
        self.pairs = pairs
        self.dealt = []

    def inside(self, box):
        return [number for number, one in self.dealt if one == box]

    def is_dealt(self, number):
        return number in dict(self.dealt)

    def solves(self, number, box):
        """Whether the box would hold a solution with the number."""
        for numbers in itertools.product(self.inside(box) + [number], repeat=len(self.system.names)):
            if number in numbers and is_solution(self.system, self.pairs, numbers):
                return True
        return False

    def error_of(self, number, box):
        return Dealt if self.is_dealt(number) else Solved if self.solves(number, box) else None

    def free(self, number):
        return tuple(box for box in range(self.boxes) if not self.solves(number, box))

    def stuck(self):
        high = max(dict(self.dealt), default=0)
        return next((number for number in range(1, high) if not self.is_dealt(number) and not self.free(number)), None)


class DealerTest(unittest.TestCase):
    def same(self, dealer, model, numbers):
        """Looks at all that does not change a dealer, twice."""
        for _ in range(2):
            self.assertEqual(dealer.dealt, tuple(model.dealt))
            self.assertEqual(len(dealer), len(model.dealt))
            self.assertEqual(dealer.stuck, model.stuck())
            for number in numbers:
                self.assertIs(number in dealer, model.is_dealt(number))
                self.assertEqual(dealer.box(number), dict(model.dealt).get(number))
                if model.is_dealt(number):
                    with self.assertRaises(Dealt) as held:
                        dealer.free(number)
                    self.assertEqual(held.exception.number, number)
                else:
                    self.assertEqual(dealer.free(number), model.free(number))

    def deal(self, dealer, model, number, box):
        """Deals a number in both; tells which error came."""
        error = model.error_of(number, box)
        if error is None:
            self.assertIsNone(dealer.deal(number, box))
            model.dealt.append((number, box))
            return "dealt"
        with self.assertRaises(error) as held:
            dealer.deal(number, box)
        self.assertIs(type(held.exception), error)
        if error is Dealt:
            self.assertEqual(held.exception.number, number)
        else:
            self.is_bar(model, held.exception.numbers, number, box)
        return error.__name__

    def is_bar(self, model, numbers, number, box):
        self.assertTrue(is_solution(model.system, model.pairs, numbers))
        self.assertIn(number, numbers)
        self.assertLessEqual(set(numbers), {number, *model.inside(box)})

    def deal_all(self, dealer, model, pairs):
        before = list(model.dealt)
        error = None
        for number, box in pairs:
            error = model.error_of(number, box)
            if error:
                break
            model.dealt.append((number, box))
        if error is None:
            self.assertIsNone(dealer.deal_all(*pairs))
            return "all"
        with self.assertRaises(error) as held:
            dealer.deal_all(*pairs)
        self.assertIs(type(held.exception), error)
        if error is Dealt:
            self.assertEqual(held.exception.number, number)
        else:
            self.is_bar(model, held.exception.numbers, number, box)
        model.dealt = before
        return "all" + error.__name__

    def step(self, rng, dealer, model, high):
        """Calls any method of both with any numbers."""
        kind = rng.randrange(5)
        if kind <= 1:
            return self.deal(dealer, model, rng.randint(1, high), rng.randrange(model.boxes))
        if kind == 2 and rng.randrange(2):
            if model.dealt:
                self.assertEqual(dealer.take_back(), model.dealt.pop())
                return "back"
            with self.assertRaises(NothingDealt):
                dealer.take_back()
            return "nothing"
        if kind == 3:
            pairs = [(rng.randint(1, high), rng.randrange(model.boxes)) for _ in range(rng.randint(0, 3))]
            return self.deal_all(dealer, model, pairs)
        return "none"


class CallsTest(DealerTest):
    def test_example(self):
        dealer = Dealer(SUM, 2)
        self.assertEqual((len(dealer), dealer.dealt, dealer.stuck, dealer.box(1), 1 in dealer), (0, (), None, None, False))
        self.assertEqual(dealer.free(1), (0, 1))
        self.assertIsNone(dealer.deal(1, 0))
        with self.assertRaises(Solved) as held:
            dealer.deal(2, 0)
        self.assertEqual(held.exception.numbers, (1, 1, 2))
        self.assertIsNone(dealer.deal_all((2, 1), (3, 1), (4, 0)))
        self.assertEqual(dealer.dealt, ((1, 0), (2, 1), (3, 1), (4, 0)))
        self.assertEqual(dealer.free(5), ())
        self.assertIsNone(dealer.stuck)
        self.assertEqual(dealer.free(6), (0,))
        dealer.deal(6, 0)
        self.assertEqual(dealer.stuck, 5)
        self.assertIsNone(dealer.goes_on(5))
        self.assertIs(4 in dealer, True)
        self.assertIs(5 in dealer, False)
        self.assertEqual((dealer.box(3), dealer.box(5), len(dealer)), (1, None, 5))
        self.assertEqual([dealer.take_back() for _ in range(5)], [(6, 0), (4, 0), (3, 1), (2, 1), (1, 0)])
        self.assertEqual((len(dealer), dealer.dealt, dealer.stuck), (0, (), None))
        with self.assertRaises(NothingDealt):
            dealer.take_back()

    def test_arguments_by_name(self):
        dealer = Dealer(boxes=2, system=APART, unlike=PAIR)
        self.assertIsNone(dealer.deal(box=1, number=4))
        self.assertEqual(dealer.free(number=5), (0, 1))
        self.assertEqual(dealer.box(number=4), 1)
        self.assertEqual(dealer.goes_on(most=4)[3], 1)
        with self.assertRaises(TypeError):
            Dealer(APART, 2, PAIR)

    def test_no_argument_is_changed(self):
        before = parts_of(APART)
        pairs = (("x", "y"), ("y", "x"))
        dealer = Dealer(APART, 3, unlike=pairs)
        dealt = ((1, 0), (2, 0), (3, 1))
        dealer.deal_all(*dealt)
        dealer.goes_on(9)
        self.assertEqual((parts_of(APART), pairs, dealt), (before, (("x", "y"), ("y", "x")), ((1, 0), (2, 0), (3, 1))))

    def test_random_calls(self):
        rng = random.Random(771)
        seen = {}
        for _ in range(160):
            width = rng.randint(1, 4)
            make = rng.choice((random_system, likely_system, likely_system))
            system = make(rng, width, rng.randint(1 if width == 4 else 0, 2), rng.randint(0, 1), rng.choice((1, 2, 3)))
            pairs = random_pairs(rng, system.names, 3) if rng.randrange(2) else ()
            boxes = rng.randint(1, 4)
            dealer, model = Dealer(system, boxes, unlike=pairs), Model(system, boxes, pairs)
            high = rng.choice((6, 12, 30, 120))
            for turn in range(25):
                kind = self.step(rng, dealer, model, high)
                seen[kind] = seen.get(kind, 0) + 1
                if len(model.dealt) > (12, 12, 12, 8, 5)[width]:
                    break
                if turn % 6 == 0:
                    self.same(dealer, model, rng.sample(range(1, high + 1), 5))
            self.same(dealer, model, rng.sample(range(1, high + 1), 5))
        for kind in ("dealt", "Dealt", "Solved", "back", "nothing", "all", "allDealt", "allSolved"):
            self.assertGreater(seen[kind], 15, seen)

    def test_errors_change_nothing(self):
        rng = random.Random(772)
        for _ in range(60):
            system = likely_system(rng, rng.randint(1, 3), 1, rng.randint(0, 1), 2)
            dealer, model = Dealer(system, 2), Model(system, 2, ())
            for _ in range(8):
                self.step(rng, dealer, model, 12)
            told = dealer.dealt, dealer.stuck, [dealer.goes_on(most) for most in (1, 5, 9)]
            for number in range(1, 14):
                for box in (0, 1):
                    if model.error_of(number, box):
                        with self.assertRaises(BoxError):
                            dealer.deal(number, box)
                        with self.assertRaises(BoxError):
                            dealer.deal_all(*[(one, rng.randrange(2)) for one in range(20, 23)], (number, box))
                if model.is_dealt(number):
                    with self.assertRaises(Dealt):
                        dealer.free(number)
            self.assertEqual(told, (dealer.dealt, dealer.stuck, [dealer.goes_on(most) for most in (1, 5, 9)]))
            self.same(dealer, model, range(1, 14))

    def test_numbers_that_come_twice_in_one_call(self):
        dealer = Dealer(SUM, 2)
        dealer.deal(9, 1)
        for pairs, number in ((((1, 0), (1, 0)), 1), (((1, 0), (3, 0), (1, 1)), 1), (((1, 0), (9, 0)), 9), (((9, 1),), 9)):
            with self.assertRaises(Dealt) as held:
                dealer.deal_all(*pairs)
            self.assertEqual(held.exception.number, number)
            self.assertEqual(dealer.dealt, ((9, 1),))
        with self.assertRaises(Solved) as held:
            dealer.deal_all((1, 0), (3, 0), (4, 0), (1, 0))
        self.assertIn(held.exception.numbers, ((1, 3, 4), (3, 1, 4)))
        with self.assertRaises(Dealt):
            dealer.deal_all((1, 0), (3, 0), (1, 0), (4, 0))
        self.assertEqual(dealer.dealt, ((9, 1),))
        self.assertIsNone(dealer.deal_all())
        self.assertIsNone(dealer.deal_all((1, 0), (3, 0), (4, 1)))
        self.assertEqual(dealer.dealt, ((9, 1), (1, 0), (3, 0), (4, 1)))

    def test_dealt_comes_ahead_of_solved(self):
        dealer = Dealer(System(NAMES[:2], (((1, -1), 0),)), 1, unlike=PAIR)
        dealer.deal(1, 0)
        with self.assertRaises(Dealt):
            dealer.deal(1, 0)
        dealer = Dealer(SUM, 2)
        dealer.deal_all((1, 0), (2, 1))
        for box in (0, 1):
            with self.assertRaises(Dealt):
                dealer.deal(2, box)

    def test_a_solution_of_one_number(self):
        dealer = Dealer(System(NAMES[:2], (((1, -1), 0),)), 3)
        with self.assertRaises(Solved) as held:
            dealer.deal(7, 2)
        self.assertEqual(held.exception.numbers, (7, 7))
        self.assertEqual((dealer.free(7), len(dealer), dealer.stuck), ((), 0, None))

    def test_dealers_are_apart(self):
        one, two = Dealer(SUM, 2), Dealer(SUM, 2)
        one.deal(1, 0)
        two.deal(2, 0)
        self.assertEqual((one.dealt, two.dealt), (((1, 0),), ((2, 0),)))
        self.assertEqual((one.free(4), two.free(4)), ((0, 1), (1,)))

    def test_what_is_returned_stays_as_it_was(self):
        dealer = Dealer(SUM, 2)
        dealer.deal(5, 1)
        dealt, free = dealer.dealt, dealer.free(7)
        dealer.deal(7, 0)
        self.assertEqual((dealt, free), (((5, 1),), (0, 1)))
        for made in (dealer.dealt, dealer.dealt[0], dealer.free(8), dealer.take_back(), dealer.goes_on(4)):
            self.assertIs(type(made), tuple)


class StuckTest(DealerTest):
    def test_stuck(self):
        dealer = Dealer(STEPS, 1)
        for number, stuck in ((5, 4), (3, 2), (1, 2)):
            dealer.deal(number, 0)
            self.assertEqual(dealer.stuck, stuck)
        dealer.take_back()
        dealer.take_back()
        self.assertEqual(dealer.stuck, 4)
        dealer.take_back()
        self.assertIsNone(dealer.stuck)

    def test_only_numbers_below_the_greatest_dealt_one_are_looked_at(self):
        dealer = Dealer(SUM, 1)
        dealer.deal(1, 0)
        self.assertEqual(dealer.free(2), ())
        self.assertIsNone(dealer.stuck)
        dealer.deal(3, 0)
        self.assertEqual(dealer.stuck, 2)
        always = Dealer(System(NAMES[:2], (((1, -1), 0),)), 2)
        self.assertIsNone(always.stuck)

    def test_a_great_number(self):
        dealer = Dealer(SUM, 3)
        dealer.deal(120, 2)
        self.assertIsNone(dealer.stuck)
        dealer.deal_all((60, 1), (30, 0))
        self.assertIsNone(dealer.stuck)
        dealer.deal(15, 1)
        self.assertIsNone(dealer.stuck)


class GoesOnTest(DealerTest):
    def test_examples(self):
        dealer = Dealer(SUM, 2)
        self.assertIn(dealer.goes_on(4), ((0, 1, 1, 0), (1, 0, 0, 1)))
        self.assertIsNone(dealer.goes_on(5))
        dealer.deal(3, 0)
        self.assertEqual(dealer.goes_on(4), (1, 0, 0, 1))
        dealer.deal(40, 0)
        self.assertEqual(dealer.goes_on(4), (1, 0, 0, 1))
        dealer.deal(4, 0)
        self.assertIsNone(dealer.goes_on(4))
        self.assertIn(dealer.goes_on(3), ((0, 1, 0), (1, 0, 0)))
        self.assertEqual(dealer.dealt, ((3, 0), (40, 0), (4, 0)))

    def test_random_dealers(self):
        rng = random.Random(773)
        seen = {True: 0, False: 0}
        for _ in range(350):
            width = rng.randint(1, 3)
            system = rng.choice((random_system, likely_system))(rng, width, rng.randint(0, 2), rng.randint(0, 1), 2)
            pairs = random_pairs(rng, system.names, 2) if rng.randrange(2) else ()
            boxes = rng.randint(1, 3)
            dealer = Dealer(system, boxes, unlike=pairs)
            for _ in range(rng.randint(0, 4)):
                number = rng.randint(1, 9)
                if number not in dealer and dealer.free(number):
                    dealer.deal(number, rng.choice(dealer.free(number)))
            most = rng.randint(1, (0, 10, 7, 5)[boxes])
            sets = {frozenset(numbers) for numbers in all_solutions(system, pairs, most)}
            boxed = dict(dealer.dealt)
            every = [one for one in itertools.product(range(boxes), repeat=most)
                     if all(one[number - 1] == box for number, box in boxed.items() if number <= most)
                     and not any(holds_solution(sets, {k + 1 for k in range(most) if one[k] == box})
                                 for box in range(boxes))]
            before = dealer.dealt
            found = dealer.goes_on(most)
            seen[found is None] += 1
            self.assertTrue(found in every if every else found is None)
            self.assertEqual(dealer.dealt, before)
        self.assertGreater(min(seen.values()), 60)

    def test_nothing_is_dealt(self):
        for boxes in (1, 2, 3):
            for most in (1, 3, 8, 13):
                found = Dealer(SUM, boxes).goes_on(most)
                self.assertIs(found is None, dealing(SUM, boxes, most) is None)
                self.assertTrue(found is None or is_dealing(SUM, boxes, most, found))


class LimitsTest(DealerTest):
    def test_limits(self):
        rng = random.Random(774)
        four = System(NAMES[:4], (((1, 1, -1, -1), 0),))
        rests = System(NAMES[:3], (), (((1, 1, 1), 1, 2), ((1, 0, 0), 0, 3)))
        for system, boxes, pairs in ((four, 6, EVERY), (APART, 6, PAIR), (SUM, 6, ()), (rests, 2, PAIR),
                                     (System(NAMES[:4], (((1, 0, -1, 0), 0),)), 1, (("x", "z"),)),
                                     (System(NAMES[:4], (((9, -8, 7, -9), 40),)), 4, EVERY)):
            dealer = Dealer(system, boxes, unlike=pairs)
            for number in [120] + rng.sample(range(1, 120), 119):
                if len(dealer) < 60 and dealer.free(number):
                    dealer.deal(number, rng.choice(dealer.free(number)))
            for box in range(boxes):
                inside = [number for number, one in dealer.dealt if one == box]
                if len(inside) < 16:
                    for numbers in itertools.product(inside, repeat=len(system.names)):
                        self.assertFalse(is_solution(system, pairs, numbers))
            barred = [number for number in range(1, 120) if number not in dealer and not dealer.free(number)]
            self.assertEqual(dealer.stuck, barred[0] if barred else None)
            most = 12
            found = dealer.goes_on(most)
            self.assertTrue(found is None or is_dealing(system, boxes, most, found, (), pairs))
            while len(dealer):
                dealer.take_back()
            self.assertEqual((dealer.dealt, dealer.stuck), ((), None))

    def test_many_calls(self):
        rng = random.Random(775)
        dealer, model = Dealer(SUM, 6), Model(SUM, 6, ())
        for _ in range(300):
            number, box = rng.randint(1, 60), rng.randrange(6)
            if len(dealer) < 18:
                self.deal(dealer, model, number, box)
            else:
                self.assertEqual(dealer.take_back(), model.dealt.pop())
        self.same(dealer, model, range(1, 61))


if __name__ == "__main__":
    unittest.main()
