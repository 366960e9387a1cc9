"""Point 3: what the document promises over all modules together."""

import random
import unittest

from tests.oracles import NAMES, likely_system, parts_of, random_pairs, random_system
from tests.searches import all_solutions, is_closed_set, is_dealing, is_solution, size_together
from tests.test_dealings import APART, PAIR, SUM
from tests.test_findings import parts
from tests.test_machines import random_machine
from tests.test_programs import some_program
from tests.test_solved import any_machine
from whateverboxes.bars import Sorter
from whateverboxes.dealers import Dealer
from whateverboxes.dealings import dealing, least_most, tree, tree_holds
from whateverboxes.errors import Solved, TooFar
from whateverboxes.findings import finding_holds
from whateverboxes.fits import closed, closed_holds, fit, solved
from whateverboxes.forms import form_numbers
from whateverboxes.machines import Machine
from whateverboxes.programs import Program
from whateverboxes.systems import System
from whateverboxes.verdicts import barring, beside, modulo_verdict, verdict, verdict_holds, verdict_of_any


def is_bar(found):
    return found[0] in ("modulo", "never", "digits")


def some_task(rng, most=3):
    """A system with pairs."""
    width = rng.randint(1, most)
    make = rng.choice((random_system, likely_system, likely_system))
    system = make(rng, width, rng.randint(1 if width == 4 else 0, 2), rng.randint(0, 1), rng.choice((1, 2, 3)))
    return system, random_pairs(rng, system.names, 2) if rng.randrange(2) else ()


class BarredTest(unittest.TestCase):
    def test_the_sorter_of_a_bar_fits_nowhere(self):
        rng = random.Random(801)
        seen = {}
        for _ in range(600):
            system, pairs = some_task(rng)
            found = verdict(system, unlike=pairs)
            if not is_bar(found):
                continue
            seen[found[0]] = seen.get(found[0], 0) + 1
            self.assertIs(verdict_holds(system, found, unlike=pairs), True)
            sorter = barring(found)
            with self.assertRaises(TooFar):
                fit(system, sorter, 60, unlike=pairs)
            boxes = tuple(sorter(number) for number in range(1, 13))
            self.assertTrue(is_dealing(system, sorter.boxes, 12, boxes, (), pairs))
            if sorter.boxes <= 4:
                self.assertIsNotNone(dealing(system, sorter.boxes, 12, start=boxes[:5], unlike=pairs))
                self.assertIsNone(tree(system, sorter.boxes, 12, start=boxes[:5], unlike=pairs))
                self.assertEqual(dealing(system, sorter.boxes, 12, start=boxes, unlike=pairs), boxes)
        self.assertGreater(min(seen[word] for word in ("modulo", "never", "digits")), 10, seen)

    def test_dealers_follow_the_sorter_of_a_bar(self):
        rng = random.Random(802)
        count = 0
        while count < 60:
            system, pairs = some_task(rng)
            found = verdict(system, unlike=pairs)
            if is_bar(found) and barring(found).boxes <= 6:
                count += 1
                sorter = barring(found)
                dealer = Dealer(system, sorter.boxes, unlike=pairs)
                numbers = rng.sample(range(1, 61), 60)
                dealer.deal_all(*[(number, sorter(number)) for number in numbers])
                self.assertIsNone(dealer.stuck)
                self.assertEqual(dealer.goes_on(40), tuple(sorter(number) for number in range(1, 41)))
                self.assertIn(sorter(77), dealer.free(77))

    def test_machines_that_bar(self):
        # The sorters by last digits and by remainders are machines, too; so closed sets show the same.
        rng = random.Random(803)
        seen = {"modulo": 0, "digits": 0}
        while min(seen.values()) < 25:
            system = rng.choice((random_system, likely_system))(rng, rng.randint(1, 3), rng.randint(1, 2), 0, 2)
            found = verdict(system)
            if found[0] not in seen or found[-1] > 7:
                continue
            if found[0] == "digits" and found[1] != 0:
                continue
            machine = Machine.modulo(2, found[1]) if found[0] == "modulo" else Machine.last(found[2])
            if size_together(system, machine, len(machine.steps)) > 100000:
                continue
            seen[found[0]] += 1
            self.assertIsNone(solved(system, machine))
            made = closed(system, machine)
            self.assertIs(closed_holds(system, machine, made), True)
            self.assertIs(finding_holds(("closed", str(system), parts(machine), made)), True)
            # A machine that tells more apart bars it, too.
            finer = machine * random_machine(rng, machine.base, 2)
            if size_together(system, finer, len(finer.steps)) <= 60000:
                self.assertIsNone(solved(system, finer))
                self.assertTrue(is_closed_set(system, finer, closed(system, finer)))

    def test_several_systems_are_barred_together(self):
        rng = random.Random(804)
        seen = {"sure": 0, "barred": 0}
        for _ in range(120):
            systems = [likely_system(rng, rng.randint(1, 3), rng.randint(1, 2), 0, 2) for _ in range(rng.randint(1, 3))]
            word, *told = verdict_of_any(*systems)
            seen[word] += 1
            if word == "barred":
                sorter = barring(*told[0])
                for system in systems:
                    with self.assertRaises(TooFar):
                        fit(system, sorter, 40)
                together = beside(*systems)
                self.assertNotIn(verdict(together)[0], ("form", "alike"))
            else:
                self.assertEqual(told[1], verdict(systems[told[0]]))
        self.assertGreater(min(seen.values()), 20)


class SureTest(unittest.TestCase):
    def test_no_machine_bars_what_is_sure(self):
        rng = random.Random(811)
        count = 0
        while count < 200:
            system = rng.choice((random_system, likely_system))(rng, rng.randint(1, 3), rng.randint(0, 2), 0, 2)
            pairs = random_pairs(rng, system.names, 1) if rng.randrange(2) else ()
            machine, states = any_machine(rng, rng.choice((2, 2, 3, 5)))
            if is_bar(verdict(system, unlike=pairs)) or size_together(system, machine, states, pairs) > 30000:
                continue
            count += 1
            numbers = solved(system, machine, unlike=pairs)
            self.assertTrue(is_solution(system, pairs, numbers))
            self.assertIsNone(closed(system, machine))
            if not pairs:
                self.assertIs(finding_holds(("solved", str(system), parts(machine), numbers)), True)
            if max(numbers) <= 60:
                found = fit(system, machine, 60, unlike=pairs)
                self.assertEqual((max(found), len({machine(number) for number in found})), (max(numbers), 1))
                self.assertEqual(max(fit(system, machine.sorter(), 60, unlike=pairs)), max(numbers))

    def test_each_number_of_boxes_has_a_tree(self):
        for system, boxes, pairs, expected in (
                (SUM, 1, (), 2), (SUM, 2, (), 5), (SUM, 3, (), 14), (SUM, 1, PAIR, 3), (SUM, 2, PAIR, 9),
                (APART, 1, PAIR, 3), (APART, 2, PAIR, 9), (APART, 4, (), 1),
                (System(NAMES[:4], (((1, 1, 1, -1), 0),)), 2, (), 11), (System(NAMES[:2], (((3, -3), 0),)), 4, (), 1)):
            self.assertFalse(is_bar(verdict(system, unlike=pairs)))
            self.assertEqual(least_most(system, boxes, 20, unlike=pairs), expected)
            for most in range(max(1, expected - 2), expected + 3):
                made = tree(system, boxes, most, unlike=pairs)
                found = dealing(system, boxes, most, unlike=pairs)
                self.assertIs(made is None, most < expected)
                self.assertIs(found is None, most >= expected)
                if made is not None:
                    self.assertIs(tree_holds(system, boxes, most, made, unlike=pairs), True)
                    self.assertIs(finding_holds(("tree", str(system), pairs, boxes, most, made)), True)
                    self.follow(Dealer(system, boxes, unlike=pairs), made)

    def follow(self, dealer, made):
        """Deals as the tree says; each way ends with a solution, at the latest where the tree does."""
        self.assertEqual(made[0], "deal")
        for box, branch in enumerate(made[2]):
            try:
                dealer.deal(made[1], box)
            except Solved as error:
                self.assertIn(made[1], error.numbers)
                continue
            self.follow(dealer, branch)
            self.assertEqual(dealer.take_back(), (made[1], box))

    def test_forms_and_fits(self):
        # The numbers of a form lie in one box for any sorter; here those of sorters by remainders are tried.
        rng = random.Random(812)
        count = 0
        while count < 60:
            system, pairs = some_task(rng)
            found = verdict(system, unlike=pairs)
            if found[0] != "form":
                continue
            count += 1
            _, number, made = found
            for modulus in (1, 2, 5):
                numbers = form_numbers(made, *[modulus * 100 ** k for k in range(len(made[2]), 0, -1)])
                shifted = tuple(number + entry for entry in numbers)
                self.assertTrue(system.fulfils(shifted))
                self.assertEqual(len({entry % modulus for entry in shifted}), 1)
                for one, other in pairs:
                    self.assertNotEqual(shifted[system.names.index(one)], shifted[system.names.index(other)])


class RemaindersTest(unittest.TestCase):
    def test_verdicts_by_remainders_and_machines(self):
        rng = random.Random(821)
        seen = {}
        for _ in range(400):
            system = rng.choice((random_system, likely_system))(rng, rng.randint(1, 3), rng.randint(0, 2), 0, 2)
            found = modulo_verdict(system)
            seen[found[0]] = seen.get(found[0], 0) + 1
            for modulus in range(1, 5):
                machine = Machine.sums(modulus + 1, modulus)  # n and the sum of its digits have the same remainder
                if size_together(system, machine, modulus) > 60000:
                    continue
                self.assertEqual([machine(n) for n in range(1, 40)], [n % modulus for n in range(1, 40)])
                bars = solved(system, machine) is None
                self.assertIs(bars, closed(system, machine) is not None)
                if found[0] in ("alike", "ahead"):
                    self.assertIs(bars, False)
                elif found[0] == "weights" or modulus == found[1]:
                    self.assertIs(bars, True)
                else:
                    self.assertIs(bars or modulus < found[1] or found[0] == "modulo", True)
        for word in ("modulo", "alike", "ahead", "weights"):
            self.assertGreater(seen[word], 10, seen)


class ProgramsTest(unittest.TestCase):
    def test_from_a_program_to_its_findings(self):
        program = Program.read("take x\ntake d\nlet y = x + d\nlet z = x + 2 d\nkeep x y z")
        system = program.system()
        text = str(system)
        self.assertIs(finding_holds(("asks", str(program), text)), True)
        found = verdict(system, unlike=PAIR)
        self.assertEqual(found[0], "form")
        self.assertIs(finding_holds(("verdict", text, PAIR, found)), True)
        self.assertEqual([least_most(system, boxes, 20, unlike=PAIR) for boxes in (1, 2)], [3, 9])
        self.assertIs(finding_holds(("tree", text, PAIR, 2, 9, tree(system, 2, 9, unlike=PAIR))), True)
        self.assertEqual(max(solved(system, Machine.modulo(2, 2), unlike=PAIR)), 5)
        runs = dict(program.run(x=1, d=2))
        self.assertEqual(tuple(runs[name] for name in program.kept), (1, 3, 5))

    def test_systems_that_programs_ask(self):
        # They may have greater factors and more rows than other systems; what fits must come from a run.
        rng = random.Random(831)
        seen = {True: 0, False: 0}
        count = 0
        while count < 80:
            program = Program.read(some_program(rng, keeps=2))
            system = program.system()
            if max([abs(entry) for line in system.rows + system.rests for entry in line[0] + line[1:]], default=0) > 40:
                continue
            count += 1
            function = rng.choice((lambda number: 0, lambda number: number % 2, lambda number: number * number % 3))
            every = [numbers for numbers in all_solutions(system, (), 30) if len({function(n) for n in numbers}) == 1]
            seen[bool(every)] += 1
            if every:
                found = fit(system, function, 30)
                self.assertIn(found, every)
                self.assertEqual(max(found), min(max(numbers) for numbers in every))
            else:
                with self.assertRaises(TooFar):
                    fit(system, function, 30)
        self.assertGreater(min(seen.values()), 15)


class TogetherTest(unittest.TestCase):
    def test_dealings_trees_and_dealers_agree(self):
        rng = random.Random(841)
        seen = {True: 0, False: 0}
        for _ in range(250):
            system, pairs = some_task(rng, 4)
            boxes = rng.randint(1, 3)
            most = rng.randint(1, (0, 12, 8, 6)[boxes])
            before = parts_of(system), pairs
            found, made = dealing(system, boxes, most, unlike=pairs), tree(system, boxes, most, unlike=pairs)
            seen[made is None] += 1
            self.assertIs(found is None, made is not None)
            low = least_most(system, boxes, most, unlike=pairs)
            self.assertIs(low is None, made is None)
            dealer = Dealer(system, boxes, unlike=pairs)
            self.assertIs(dealer.goes_on(most) is None, found is None)
            if found is None:
                self.assertIsNone(dealing(system, boxes, low, unlike=pairs))
                self.assertTrue(low == 1 or dealing(system, boxes, low - 1, unlike=pairs) is not None)
                self.assertIs(tree_holds(system, boxes, most, made, unlike=pairs), True)
            else:
                dealer.deal_all(*[(number, box) for number, box in enumerate(found, start=1)])
                self.assertEqual(dealer.goes_on(most), found)
                self.assertIsNone(dealer.stuck)
                with self.assertRaises(TooFar):
                    fit(system, lambda number: found[number - 1], most, unlike=pairs)
            self.assertEqual(before, (parts_of(system), pairs))
        self.assertGreater(min(seen.values()), 50)

    def test_sorters_as_dealings(self):
        sorter = Sorter.modulo(3) * Sorter.digits(2)
        for system, pairs in ((SUM, ()), (APART, PAIR)):
            numbers = fit(system, sorter, 60, unlike=pairs)
            dealer = Dealer(system, sorter.boxes, unlike=pairs)
            with self.assertRaises(Solved) as held:
                dealer.deal_all(*[(number, sorter(number)) for number in range(1, 61)])
            self.assertEqual(max(held.exception.numbers), max(numbers))
            self.assertEqual(len(dealer), 0)
            dealer.deal_all(*[(number, sorter(number)) for number in range(1, max(numbers))])
            self.assertNotIn(sorter(max(numbers)), dealer.free(max(numbers)))


if __name__ == "__main__":
    unittest.main()
