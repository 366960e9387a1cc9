"""Point 29: the examples of the document, and those of README.md."""

import unittest

from whateverboxes.bars import Sorter, clear_prime, is_clear, last_digit
from whateverboxes.dealers import Dealer
from whateverboxes.dealings import dealing, least_most, tree, tree_holds
from whateverboxes.errors import BadMachine, BadText, Dealt, Failed, NoForm, NothingDealt, Solved, TooFar
from whateverboxes.findings import finding_holds
from whateverboxes.fits import closed, closed_holds, fit, solved
from whateverboxes.forms import alike, form, form_holds, form_numbers, reached
from whateverboxes.machines import Machine
from whateverboxes.programs import Program
from whateverboxes.systems import System
from whateverboxes.tables import hermite, kernel, rank, rank_modulo
from whateverboxes.verdicts import (barring, beside, keepable, modulo_verdict, modulo_verdict_holds, verdict,
                                    verdict_holds, verdict_of_any)


def read(*lines):
    return System.read("\n".join(lines))


class ExamplesTest(unittest.TestCase):
    def test_tables(self):
        self.assertEqual(hermite(((2, 4), (3, 5))), ((1, 1), (0, 2)))
        self.assertEqual(kernel(((1, 1, -3),), 3), ((1, 2, 1), (0, 3, 1)))
        self.assertEqual(kernel((), 2), ((1, 0), (0, 1)))
        self.assertEqual(hermite(()), ())
        self.assertEqual(rank(((1, 2), (2, 4))), 1)
        self.assertEqual(rank_modulo(((1, 1), (1, -1)), 2), 1)

    def test_systems(self):
        system = System(("x", "y"), (((1, -1), 4),), (((1, 0), 1, 3),))
        self.assertEqual(str(system), "names x y\nx - y = 4\nx = 1 mod 3")
        self.assertIs(system.fulfils((7, 3)), True)
        self.assertEqual(system.moves(), ((3, 3),))
        self.assertEqual(system.point(), (1, -3))
        self.assertEqual(system.plain_rows(), ((1, -1),))
        both = system & System.read("names y z\ny + 2 z = 5")
        self.assertEqual(str(both), "names x y z\nx - y = 4\ny + 2 z = 5\nx = 1 mod 3")
        self.assertEqual(str(system.without(0)), "names x y\nx = 1 mod 3")
        self.assertEqual(str(system.renamed(x="y", y="x")), "names y x\ny - x = 4\ny = 1 mod 3")
        self.assertEqual(str(system.equate("x", "y")), "names x y\nx - y = 4\nx - y = 0\nx = 1 mod 3")
        self.assertIs(system.brings(system.without(0)), True)
        self.assertIs(system.is_same(system.without(0)), False)

    def test_programs(self):
        program = Program.read("take x\ntake d\nlet y = x + d\nlet z = x + 2 d\nkeep x y z")
        self.assertEqual(program.run(x=1, d=2), (("x", 1), ("d", 2), ("y", 3), ("z", 5)))
        self.assertIs(program.system().is_same(System.read("names x y z\nx - 2 y + z = 0")), True)
        self.assertEqual(str(program.system()), "names x y z\nx - 2 y + z = 0")

    def test_a_sum(self):
        system = read("names x y z", "x + y - z = 0")
        made = (1, (0, 1, 0), ((1, 0, 1), (0, 1, 1)))
        self.assertEqual(alike(system), (0,))
        self.assertEqual(reached(system), ("x", "y", "z"))
        self.assertIs(form_holds(system, made), True)
        self.assertIs(form_holds(system, form(system)), True)
        self.assertEqual(form_numbers(made, 5, 3), (5, 3, 8))
        word, number, told = verdict(system)
        self.assertEqual((word, number), ("form", 0))
        self.assertIs(form_holds(system, told), True)
        self.assertIs(verdict_holds(system, ("form", 0, made)), True)

    def test_three_times_a_number(self):
        system = read("names x y z", "x + y - 3 z = 0")
        self.assertEqual(verdict(system), ("digits", 0, 5))
        self.assertEqual((clear_prime(system), is_clear(system, 3)), (5, False))
        self.assertIs(modulo_verdict_holds(system, ("ahead", 0, (2, 1, 1))), True)
        self.assertIs(modulo_verdict_holds(system, modulo_verdict(system)), True)
        self.assertEqual(modulo_verdict(system)[:2], ("ahead", 0))
        with self.assertRaises(NoForm) as held:
            form(system)
        self.assertEqual(held.exception.reached, ())
        for x in range(1, 40):
            for y in range(1, 40):
                if (x + y) % 3 == 0:
                    self.assertGreater(len({last_digit(n, 5) for n in (x, y, (x + y) // 3)}), 1)

    def test_other_verdicts(self):
        self.assertEqual(verdict(read("names x y", "x - y = -1")), ("modulo", 2))
        below = read("names x y", "2 x - y = -3")
        self.assertEqual((alike(below), verdict(below)), ((-3,), ("digits", -3, 3)))
        tied = read("names x y", "x - y = 0", "x = 1 mod 3")
        self.assertEqual(alike(tied), (1, 3))
        self.assertEqual(verdict(tied, unlike=(("x", "y"),)), ("never", "x", "y"))
        self.assertEqual(verdict(read("names x y z", "x + y - z = 2")), ("alike", 2))
        whole = read("names x y z", "x + y + z = 0")
        self.assertEqual(verdict(whole), ("digits", 0, 5))
        self.assertEqual(modulo_verdict(whole)[0], "weights")
        self.assertIs(modulo_verdict_holds(whole, ("weights", (1, 1, 1))), True)

    def test_equal_distances(self):
        program = Program.read("take x\ntake d\nlet y = x + d\nlet z = x + 2 d\nkeep x y z")
        self.assertEqual(verdict(program.system(), unlike=(("x", "y"),))[0], "form")

    def test_several_systems(self):
        schur, three = read("names x y z", "x + y - z = 0"), read("names x y z", "x + y - 3 z = 0")
        self.assertEqual(verdict_of_any(three, schur), ("sure", 1, verdict(schur)))
        self.assertEqual(verdict_of_any(three, read("names x y", "x - y = -1")),
                         ("barred", (("digits", 0, 5), ("modulo", 2))))
        self.assertEqual(barring(("digits", 0, 5), ("modulo", 2)).boxes, 8)
        self.assertEqual(beside(schur, three).names, ("x", "y", "z", "x2", "y2", "z2"))
        self.assertEqual(keepable(schur & three), ((0,),))

    def test_sorters_and_machines(self):
        self.assertEqual(Sorter.digits(5)(10), 1)
        self.assertEqual(Sorter.digits(3, after=2).boxes, 4)
        self.assertEqual([Sorter.digits(3, after=2)(number) for number in range(1, 6)], [0, 1, 2, 3, 2])
        both = Sorter.modulo(3) * Sorter.digits(5)
        self.assertEqual((both.boxes, both(10)), (12, 5))
        machine = Machine(2, ((0, 1), (1, 0)), (0, 1))
        self.assertEqual((machine(5), machine(7), machine.many), (0, 1, 2))
        product = machine * Machine.last(2)
        self.assertEqual((product(7), product.sorter()(7)), (1, 1))
        with self.assertRaises(BadMachine) as held:
            Machine(2, ((1, 0), (1, 1)), (0, 1))
        self.assertEqual(held.exception.state, 0)

    def test_solutions_in_one_box(self):
        schur, three = read("names x y z", "x + y - z = 0"), read("names x y z", "x + y - 3 z = 0")
        self.assertEqual(solved(schur, Machine.modulo(2, 2)), (2, 2, 4))
        self.assertIn(solved(schur, Machine.modulo(2, 2), unlike=(("x", "y"),)), ((2, 4, 6), (4, 2, 6)))
        self.assertIsNone(solved(three, Machine.last(5)))
        self.assertIs(closed_holds(three, Machine.last(5), closed(three, Machine.last(5))), True)
        self.assertIsNone(closed(schur, Machine.last(5)))
        asked = []

        def remainder(number):
            asked.append(number)
            return number % 3

        self.assertEqual(fit(schur, remainder, 60), (3, 3, 6))
        self.assertEqual(asked, [1, 2, 3, 4, 5, 6])
        with self.assertRaises(TooFar) as held:
            fit(three, Sorter.digits(5), 60)
        self.assertEqual(held.exception.most, 60)

    def test_dealings_and_trees(self):
        schur = read("names x y z", "x + y - z = 0")
        self.assertEqual([least_most(schur, boxes, 20) for boxes in (1, 2, 3)], [2, 5, 14])
        apart = read("names x y z", "x - 2 y + z = 0")
        self.assertEqual([least_most(apart, boxes, 20, unlike=(("x", "y"),)) for boxes in (1, 2)], [3, 9])
        self.assertEqual(dealing(schur, 2, 4), (0, 1, 1, 0))
        self.assertEqual(dealing(schur, 2, 4, start=(1,)), (1, 0, 0, 1))
        self.assertIsNone(dealing(schur, 2, 5))
        self.assertEqual(tree(schur, 1, 2), ("deal", 1, (("deal", 2, (("solved", (1, 1, 2)),)),)))
        self.assertIs(tree_holds(schur, 2, 5, tree(schur, 2, 5)), True)
        self.assertIsNone(tree(schur, 2, 4))

    def test_a_dealer(self):
        dealer = Dealer(read("names x y z", "x + y - z = 0"), 2)
        dealer.deal(1, 0)
        with self.assertRaises(Solved) as held:
            dealer.deal(2, 0)
        self.assertEqual(held.exception.numbers, (1, 1, 2))
        self.assertEqual(dealer.free(2), (1,))
        self.assertEqual(dealer.goes_on(4), (0, 1, 1, 0))
        dealer.deal_all((2, 1), (3, 1), (4, 0), (6, 0))
        self.assertEqual(dealer.dealt, ((1, 0), (2, 1), (3, 1), (4, 0), (6, 0)))
        self.assertEqual((6 in dealer, len(dealer), dealer.box(3), dealer.box(5)), (True, 5, 1, None))
        self.assertEqual(dealer.stuck, 5)
        self.assertEqual(dealer.take_back(), (6, 0))
        with self.assertRaises(Dealt) as held:
            dealer.free(4)
        self.assertEqual(held.exception.number, 4)
        with self.assertRaises(NothingDealt):
            Dealer(read("names x"), 1).take_back()

    def test_findings(self):
        schur = read("names x y z", "x + y - z = 0")
        self.assertIs(finding_holds(("verdict", str(schur), (), verdict(schur))), True)
        self.assertIs(finding_holds(("tree", str(schur), (), 2, 5, tree(schur, 2, 5))), True)
        self.assertIs(finding_holds(("solved", str(schur), (2, ((0, 1), (1, 0)), (0, 1)), (3, 3, 6))), True)
        self.assertIs(finding_holds(("solved", str(schur), (2, ((0, 1), (1, 0)), (0, 1)), (1, 3, 4))), False)
        self.assertIs(finding_holds(("asks", "take x\nlet y = 2 x\nkeep y", "names y\ny = 0 mod 2")), True)

    def test_errors(self):
        with self.assertRaises(BadText) as held:
            Program.read("take x\nlet y = z\nkeep x")
        self.assertEqual(held.exception.line, 2)
        with self.assertRaises(Failed) as held:
            Program.read("take x\ncheck x = 1\nkeep x").run(x=2)
        self.assertEqual(held.exception.line, 2)


if __name__ == "__main__":
    unittest.main()
