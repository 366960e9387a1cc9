"""Point 29: the examples of the document, and those of README.md."""

import unittest

from whateverboxes.errors import BadText, Failed
from whateverboxes.programs import Program
from whateverboxes.systems import System
from whateverboxes.tables import hermite, kernel, rank, rank_modulo


class ExamplesTest(unittest.TestCase):
    def test_tables(self):
        self.assertEqual(hermite(((2, 4), (3, 5))), ((1, 1), (0, 2)))
        self.assertEqual(kernel(((1, 1, -3),), 3), ((1, 2, 1), (0, 3, 1)))
        self.assertEqual(kernel((), 2), ((1, 0), (0, 1)))
        self.assertEqual(hermite(()), ())
        self.assertEqual(rank(((1, 2), (2, 4))), 1)
        self.assertEqual(rank_modulo(((1, 1), (1, -1)), 2), 1)

    def test_systems(self):
        system = System(("x", "y"), (((1, -1), 4),), (((1, 0), 1, 3),))
        self.assertEqual(str(system), "names x y\nx - y = 4\nx = 1 mod 3")
        self.assertIs(system.fulfils((7, 3)), True)
        self.assertEqual(system.moves(), ((3, 3),))
        self.assertEqual(system.point(), (1, -3))
        self.assertEqual(system.plain_rows(), ((1, -1),))
        both = system & System.read("names y z\ny + 2 z = 5")
        self.assertEqual(str(both), "names x y z\nx - y = 4\ny + 2 z = 5\nx = 1 mod 3")
        self.assertEqual(str(system.without(0)), "names x y\nx = 1 mod 3")
        self.assertEqual(str(system.renamed(x="y", y="x")), "names y x\ny - x = 4\ny = 1 mod 3")
        self.assertEqual(str(system.equate("x", "y")), "names x y\nx - y = 4\nx - y = 0\nx = 1 mod 3")
        self.assertIs(system.brings(system.without(0)), True)
        self.assertIs(system.is_same(system.without(0)), False)

    def test_programs(self):
        program = Program.read("take x\ntake d\nlet y = x + d\nlet z = x + 2 d\nkeep x y z")
        self.assertEqual(program.run(x=1, d=2), (("x", 1), ("d", 2), ("y", 3), ("z", 5)))
        self.assertIs(program.system().is_same(System.read("names x y z\nx - 2 y + z = 0")), True)
        self.assertEqual(str(program.system()), "names x y z\nx - 2 y + z = 0")

    def test_errors(self):
        with self.assertRaises(BadText) as held:
            Program.read("take x\nlet y = z\nkeep x")
        self.assertEqual(held.exception.line, 2)
        with self.assertRaises(Failed) as held:
            Program.read("take x\ncheck x = 1\nkeep x").run(x=2)
        self.assertEqual(held.exception.line, 2)


if __name__ == "__main__":
    unittest.main()
