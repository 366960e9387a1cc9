"""Points 5 and 6: systems, what fulfils them, how they compare and how they are joined."""

import random
import unittest

from tests.oracles import (belongs, box, equations_of, fulfils, has_hermite_shape, is_solvable, lead, parts_of,
                           random_row, random_system, rank_by_minors)
from whateverboxes.systems import System


def all_parts(system):
    """The parts, after a look that they consist of tuples alone."""
    for one in (system.names, system.rows, system.rests) + system.rows + system.rests:
        assert type(one) is tuple, one
    for row in system.rows + system.rests:
        assert type(row[0]) is tuple and all(type(entry) is int for entry in row[0] + row[1:]), row
    return parts_of(system)


class MadeTest(unittest.TestCase):
    def test_parts_are_kept_as_passed(self):
        names, rows, rests = ("x", "y"), (((1, 2), 3),), (((1, 0), 1, 4),)
        for system in (System(names, rows, rests), System(names=names, rows=rows, rests=rests)):
            self.assertIs(system.names, names)
            self.assertIs(system.rows, rows)
            self.assertIs(system.rests, rests)
        for system in (System(names, rows), System(names=names, rows=rows)):
            self.assertEqual(parts_of(system), (names, rows, ()))

    def test_systems_do_not_share_what_they_are_made_of(self):
        one = System(("x",), (((1,), 2),))
        two = System(("y",), (), (((1,), 0, 2),))
        self.assertEqual(parts_of(one), (("x",), (((1,), 2),), ()))
        self.assertEqual(parts_of(two), (("y",), (), (((1,), 0, 2),)))

    def test_nothing_changes_a_system(self):
        rng = random.Random(1)
        for _ in range(60):
            one = random_system(rng, 3, rng.randint(0, 3), rng.randint(0, 2))
            two = random_system(rng, 3, rng.randint(0, 3), rng.randint(0, 2))
            before = parts_of(one), parts_of(two)
            for told in (one.point, one.moves, one.plain_rows):
                self.assertEqual(told(), told())
            self.assertEqual(one.brings(two), one.brings(two))
            self.assertEqual(one.is_same(two), one.is_same(two))
            self.assertEqual(str(one), str(one))
            one.fulfils((1, 2, 3)), one & two, one.without(0), one.renamed(x="a"), one.equate("x", "y")
            self.assertEqual((parts_of(one), parts_of(two)), before)


class FulfilsTest(unittest.TestCase):
    def test_examples(self):
        system = System(("x", "y"), (((1, 2), 5),), (((1, -1), -1, 4),))
        self.assertIs(system.fulfils((1, 2)), True)
        self.assertIs(system.fulfils(numbers=(1, 2)), True)
        self.assertIs(system.fulfils((5, 0)), False)
        self.assertIs(system.fulfils((2, 2)), False)
        self.assertIs(system.fulfils((-11, 8)), False)
        self.assertIs(system.fulfils((13, -4)), False)
        self.assertIs(system.fulfils((-7, 6)), True)
        self.assertIs(system.fulfils((-3, 4)), False)
        self.assertIs(system.fulfils((9, -2)), True)
        self.assertIs(system.fulfils((1 + 8 * 10 ** 40, 2 - 4 * 10 ** 40)), True)
        self.assertIs(system.fulfils((2 + 8 * 10 ** 40, 2 - 4 * 10 ** 40)), False)

    def test_systems_without_rows_or_rests(self):
        self.assertIs(System(("x",), ()).fulfils((-7,)), True)
        self.assertIs(System(("x",), (((0,), 0),)).fulfils((9,)), True)
        self.assertIs(System(("x",), (((0,), 1),)).fulfils((9,)), False)
        self.assertIs(System(("x",), (), (((0,), 6, 3),)).fulfils((9,)), True)
        self.assertIs(System(("x",), (), (((0,), 5, 3),)).fulfils((9,)), False)

    def test_many(self):
        rng = random.Random(2)
        seen = {True: 0, False: 0}
        for _ in range(300):
            width = rng.randint(1, 3)
            system = random_system(rng, width, rng.randint(0, 2), rng.randint(0, 3))
            for numbers in box(width, -3, 3):
                told = system.fulfils(numbers)
                self.assertIs(told, fulfils(system.rows, system.rests, numbers))
                seen[told] += 1
        self.assertGreater(min(seen.values()), 500)

    def test_great_integers(self):
        rng = random.Random(3)
        for _ in range(200):
            system = random_system(rng, 4, 1, 1)
            numbers = tuple(rng.randint(-10 ** 30, 10 ** 30) for _ in range(4))
            total = sum(a * b for a, b in zip(system.rows[0][0], numbers))
            rest = (system.rests[0][0], sum(a * b for a, b in zip(system.rests[0][0], numbers)), 7)
            for change in (0, 1, -1):
                self.assertIs(System(system.names, ((system.rows[0][0], total + change),), (rest,)).fulfils(numbers),
                              not change)
                moved = (rest[0], rest[1] + change + 7 * 10 ** 20, 7)
                self.assertIs(System(system.names, (), (moved,)).fulfils(numbers), not change)


class MovesTest(unittest.TestCase):
    def test_examples(self):
        system = System(("x", "y", "z"), (((1, 1, -3), 0),))
        self.assertEqual(system.moves(), ((1, 2, 1), (0, 3, 1)))
        self.assertEqual(system.point(), (0, 0, 0))
        self.assertEqual(System(("x", "y"), ()).moves(), ((1, 0), (0, 1)))
        self.assertEqual(System(("x", "y"), ()).point(), (0, 0))
        self.assertEqual(System(("x",), (), (((1,), 5, 3),)).moves(), ((3,),))
        self.assertEqual(System(("x",), (), (((1,), 5, 3),)).point(), (2,))
        self.assertEqual(System(("x",), (), (((2,), 5, 4),)).point(), None)
        self.assertEqual(System(("x",), (), (((2,), 5, 4),)).moves(), ((2,),))
        self.assertEqual(System(("x",), (((2,), 5),)).point(), None)
        self.assertEqual(System(("x",), (((2,), -6),)).point(), (-3,))
        self.assertEqual(System(("x",), (((2,), -6),)).moves(), ())
        self.assertEqual(System(("x",), (((0,), 1),)).point(), None)
        self.assertEqual(System(("x",), (((0,), 1),)).moves(), ((1,),))
        self.assertEqual(System(("x", "y"), (((1, -1), 4),), (((1, 0), 1, 3),)).moves(), ((3, 3),))
        self.assertEqual(System(("x", "y"), (((1, -1), 4),), (((1, 0), 1, 3),)).point(), (1, -3))

    def test_moves_by_going_through_a_box(self):
        rng = random.Random(11)
        for _ in range(300):
            width = rng.randint(1, 4)
            system = random_system(rng, width, rng.randint(0, 2), rng.randint(0, 3))
            moves = system.moves()
            self.assertTrue(has_hermite_shape(moves))
            self.assertEqual(len(moves), width - rank_by_minors(tuple(row[0] for row in system.rows)))
            rows = tuple((factors, 0) for factors, _ in system.rows)
            rests = tuple((factors, 0, modulus) for factors, _, modulus in system.rests)
            for move in moves:
                self.assertTrue(fulfils(rows, rests, move))
            for numbers in box(width, -3, 3):
                self.assertEqual(belongs(numbers, moves), fulfils(rows, rests, numbers))

    def test_rests_alone_by_going_through_all_remainders(self):
        rng = random.Random(12)
        for _ in range(40):
            moduli = [rng.randint(2, 4) for _ in range(rng.randint(1, 2))]
            rests = tuple((random_row(rng, 2, 4)[0], rng.randint(-5, 5), modulus) for modulus in moduli)
            system = System(("x", "y"), (), rests)
            inside = [numbers for numbers in box(2, 0, 11) if fulfils((), rests, numbers)]
            self.assertEqual(system.point() is None, not inside)
            for numbers in box(2, 0, 11):
                plain = tuple((factors, 0, modulus) for factors, _, modulus in rests)
                self.assertEqual(belongs(numbers, system.moves()), fulfils((), plain, numbers))

    def test_point_is_none_just_if_nothing_fulfils(self):
        rng = random.Random(13)
        seen = {True: 0, False: 0}
        for _ in range(600):
            width = rng.randint(1, 4)
            system = random_system(rng, width, rng.randint(0, 3), rng.randint(0, 2))
            point = system.point()
            there = is_solvable(equations_of(system.rows, system.rests))
            self.assertEqual(point is not None, there)
            seen[there] += 1
            if there:
                self.check_point(system, point)
        self.assertGreater(min(seen.values()), 80)

    def test_systems_with_six_names(self):
        rng = random.Random(14)
        for _ in range(60):
            system = random_system(rng, 6, rng.randint(0, 4), rng.randint(0, 3), 9)
            point = system.point()
            self.assertTrue(has_hermite_shape(system.moves()))
            self.assertEqual(len(system.moves()), 6 - rank_by_minors(tuple(row[0] for row in system.rows)))
            if point is not None:
                self.check_point(system, point)
        for _ in range(20):
            system = random_system(rng, 6, rng.randint(1, 3), rng.randint(0, 2), 9)
            self.assertEqual(system.point() is not None, is_solvable(equations_of(system.rows, system.rests)))

    def test_great_constants(self):
        rng = random.Random(15)
        for _ in range(60):
            numbers = tuple(rng.randint(-10 ** 40, 10 ** 40) for _ in range(3))
            rows = tuple((factors, sum(a * b for a, b in zip(factors, numbers)))
                         for factors in (random_row(rng, 3, 9)[0], random_row(rng, 3, 9)[0]))
            system = System(("x", "y", "z"), rows, (((1, 1, 2), sum(numbers) + numbers[2], 12),))
            self.check_point(system, system.point())
            away = tuple(a - b for a, b in zip(numbers, system.point()))
            self.assertTrue(belongs(away, system.moves()))

    def check_point(self, system, point):
        self.assertIs(type(point), tuple)
        self.assertTrue(all(type(entry) is int for entry in point))
        self.assertTrue(fulfils(system.rows, system.rests, point))
        for move in system.moves():
            column, entry = lead(move)
            self.assertTrue(0 <= point[column] < entry)


class PlainRowsTest(unittest.TestCase):
    def test_examples(self):
        self.assertEqual(System(("x", "y"), (((2, -2), 0),)).plain_rows(), ((1, -1),))
        self.assertEqual(System(("x", "y"), (((-2, 2), 7),)).plain_rows(), ((1, -1),))
        self.assertEqual(System(("x", "y"), ()).plain_rows(), ())
        self.assertEqual(System(("x", "y"), (), (((1, 1), 1, 5),)).plain_rows(), ())
        self.assertEqual(System(("x", "y"), (((0, 0), 4),)).plain_rows(), ())
        self.assertEqual(System(("x", "y"), (((2, 1), 4), ((1, 3), 0))).plain_rows(), ((1, 0), (0, 1)))
        self.assertEqual(System(("x", "y", "z"), (((3, 3, -9), 1),)).plain_rows(), ((1, 1, -3),))

    def test_by_ranks_in_a_box(self):
        rng = random.Random(21)
        for _ in range(200):
            width = rng.randint(1, 4)
            system = random_system(rng, width, rng.randint(0, 3), rng.randint(0, 2))
            table = tuple(factors for factors, _ in system.rows)
            found = system.plain_rows()
            self.assertTrue(has_hermite_shape(found))
            size = rank_by_minors(table)
            self.assertEqual(len(found), size)
            for row in box(width, -2, 2):
                self.assertEqual(belongs(row, found), rank_by_minors(table + (row,)) == size)

    def test_what_does_not_matter(self):
        rng = random.Random(22)
        for _ in range(100):
            width = rng.randint(1, 5)
            system = random_system(rng, width, rng.randint(1, 3), rng.randint(0, 2))
            found = system.plain_rows()
            rows = system.rows
            total = tuple(sum(column) for column in zip(*[factors for factors, _ in rows]))
            others = (
                System(system.names, tuple((factors, constant + 3) for factors, constant in rows)),
                System(system.names, rows, ()),
                System(system.names, rows, (((1,) * width, 0, 7), ((2,) * width, 1, 4))),
                System(system.names, tuple(reversed(rows))),
                System(system.names, tuple((tuple(-6 * a for a in factors), 1) for factors, _ in rows)),
                System(system.names, rows + ((total, 5),)),
                System(system.names, rows + rows + (((0,) * width, 2),)))
            for other in others:
                self.assertEqual(other.plain_rows(), found)


class ComparingTest(unittest.TestCase):
    def test_examples(self):
        one = System(("x", "y"), (((1, -1), 0),), (((1, 0), 1, 4),))
        two = System(("x", "y"), (((3, -3), 0),), (((0, 1), 3, 2),))
        self.assertIs(one.brings(two), True)
        self.assertIs(one.brings(other=two), True)
        self.assertIs(two.brings(one), False)
        self.assertIs(one.is_same(two), False)
        self.assertIs(one.is_same(other=one), True)
        same = System(("x", "y"), (((-2, 2), 0),), (((-3, 4), -3 + 4 * 5, 4),))
        self.assertIs(one.is_same(same), True)

    def test_systems_that_nothing_fulfils(self):
        empty = (System(("x", "y"), (((0, 0), 1),)), System(("x", "y"), (((2, 4), 1),)),
                 System(("x", "y"), (((1, 1), 0),), (((1, 1), 1, 2),)),
                 System(("x", "y"), (), (((2, 4), 1, 6),)))
        some = System(("x", "y"), (((1, 0), 3),))
        for one in empty:
            self.assertIs(one.brings(some), True)
            self.assertIs(some.brings(one), False)
            self.assertIs(one.is_same(some), False)
            for other in empty:
                self.assertIs(one.brings(other), True)
                self.assertIs(one.is_same(other), True)
            for names in (("y", "x"), ("x", "z"), ("x", "yy")):
                other = System(names, (((0, 0), 1),))
                self.assertIs(one.brings(other), False)
                self.assertIs(other.brings(one), False)
                self.assertIs(one.is_same(other), False)

    def test_names_must_be_the_same_in_the_same_order(self):
        one = System(("x", "y"), ())
        for names in (("y", "x"), ("x",), ("x", "y", "z"), ("x", "z")):
            other = System(names, ())
            self.assertIs(one.brings(other), False)
            self.assertIs(other.brings(one), False)
            self.assertIs(one.is_same(other), False)
            self.assertIs(other.is_same(one), False)
        self.assertIs(one.brings(System(("x", "y"), ())), True)

    def test_rests_alone_by_going_through_all_remainders(self):
        rng = random.Random(31)
        seen = {True: 0, False: 0}
        for _ in range(250):
            systems = []
            for _ in range(2):
                rests = tuple((random_row(rng, 2, 3)[0], rng.randint(-3, 3), rng.choice((2, 3, 4, 6)))
                              for _ in range(rng.randint(0, 2)))
                systems.append(System(("x", "y"), (), rests))
            one, two = systems
            sets = [{numbers for numbers in box(2, 0, 11) if fulfils((), system.rests, numbers)}
                    for system in systems]
            self.assertIs(one.brings(two), sets[0] <= sets[1])
            self.assertIs(one.is_same(two), sets[0] == sets[1])
            seen[sets[0] <= sets[1]] += 1
        self.assertGreater(min(seen.values()), 40)

    def test_rows_and_rests_by_tuples_that_fulfil(self):
        rng = random.Random(32)
        seen = {True: 0, False: 0}
        for _ in range(300):
            one = random_system(rng, 3, rng.randint(0, 2), rng.randint(0, 2), 2)
            two = one.without(*[k for k in range(len(one.rows)) if rng.randrange(2)])
            if rng.randrange(2):
                two = two & random_system(rng, 3, rng.randint(0, 1), rng.randint(0, 1), 2)
            told = one.brings(two)
            seen[told] += 1
            inside = [numbers for numbers in box(3, -4, 4) if fulfils(one.rows, one.rests, numbers)]
            if told:
                self.assertTrue(all(fulfils(two.rows, two.rests, numbers) for numbers in inside))
            else:
                point = one.point()
                near = [point] + [tuple(map(sum, zip(point, move))) for move in one.moves()]
                self.assertTrue(all(fulfils(one.rows, one.rests, numbers) for numbers in near))
                self.assertFalse(all(fulfils(two.rows, two.rests, numbers) for numbers in near))
            self.assertIs(one.is_same(two), told and two.brings(one))
            self.assertIs((one & two).is_same(one), told)
        self.assertGreater(min(seen.values()), 40)

    def test_what_gives_the_same_system(self):
        rng = random.Random(33)
        for _ in range(150):
            width = rng.randint(1, 4)
            system = random_system(rng, width, rng.randint(1, 3), rng.randint(1, 2))
            rests = tuple((tuple(a + modulus * rng.randint(-3, 3) for a in factors),
                           constant + modulus * rng.randint(-3, 3), modulus)
                          for factors, constant, modulus in system.rests)
            rows = tuple((tuple(-2 * a for a in factors), -2 * constant) for factors, constant in system.rows)
            total = tuple(sum(column) for column in zip(*[factors for factors, _ in rows]))
            more = (total, sum(constant for _, constant in rows))
            for other in (System(system.names, system.rows, rests), System(system.names, rows, system.rests),
                          System(system.names, tuple(reversed(system.rows)), tuple(reversed(rests))),
                          System(system.names, rows + (more,), rests + rests)):
                self.assertIs(system.is_same(other), True)
                self.assertIs(other.brings(system), True)

    def test_a_constant_more_is_another_system(self):
        rng = random.Random(34)
        for _ in range(100):
            system = random_system(rng, 3, 1, 1)
            if system.point() is None:
                continue
            (factors, constant), = system.rows
            (others, rest, modulus), = system.rests
            self.assertIs(system.is_same(System(system.names, ((factors, constant + 1),), system.rests)), False)
            self.assertIs(system.is_same(System(system.names, system.rows, ((others, rest + 1, modulus),))), False)


class JoiningTest(unittest.TestCase):
    def test_and(self):
        one = System(("x", "y"), (((1, 2), 3), ((0, 4), -5)), (((6, 7), 8, 9),))
        two = System(("z", "y", "u"), (((1, 2, 3), 4),), (((5, 6, 7), 8, 12), ((0, 1, 0), 0, 2)))
        self.assertEqual(all_parts(one & two), (
            ("x", "y", "z", "u"),
            (((1, 2, 0, 0), 3), ((0, 4, 0, 0), -5), ((0, 2, 1, 3), 4)),
            (((6, 7, 0, 0), 8, 9), ((0, 6, 5, 7), 8, 12), ((0, 1, 0, 0), 0, 2))))
        self.assertEqual(all_parts(two & one), (
            ("z", "y", "u", "x"),
            (((1, 2, 3, 0), 4), ((0, 2, 0, 1), 3), ((0, 4, 0, 0), -5)),
            (((5, 6, 7, 0), 8, 12), ((0, 1, 0, 0), 0, 2), ((0, 7, 0, 6), 8, 9))))
        self.assertEqual(all_parts(one & one), (one.names, one.rows + one.rows, one.rests + one.rests))
        apart = System(("a",), ()) & System(("b",), (((3,), 1),))
        self.assertEqual(all_parts(apart), (("a", "b"), (((0, 3), 1),), ()))

    def test_and_by_going_through_a_box(self):
        rng = random.Random(41)
        for _ in range(80):
            one = random_system(rng, 2, rng.randint(0, 1), rng.randint(0, 2), 2)
            two = random_system(rng, 2, rng.randint(0, 1), rng.randint(0, 2), 2)
            two = two.renamed(**rng.choice(({}, {"x": "y", "y": "x"}, {"y": "z"}, {"x": "u", "y": "x"})))
            both = one & two
            self.assertEqual(both.names, one.names + tuple(name for name in two.names if name not in one.names))
            for numbers in box(len(both.names), -2, 2):
                values = dict(zip(both.names, numbers))
                told = (fulfils(one.rows, one.rests, [values[name] for name in one.names])
                        and fulfils(two.rows, two.rests, [values[name] for name in two.names]))
                self.assertIs(both.fulfils(numbers), told)

    def test_without(self):
        rows = (((1, 0), 1), ((0, 1), 2), ((1, 1), 3), ((2, 1), 4))
        rests = (((1, 1), 1, 2), ((1, 0), 1, 3))
        system = System(("x", "y"), rows, rests)
        self.assertEqual(all_parts(system.without()), (("x", "y"), rows, rests))
        self.assertEqual(all_parts(system.without(0)), (("x", "y"), rows[1:], rests))
        self.assertEqual(all_parts(system.without(1)), (("x", "y"), rows[:1] + rows[2:], rests))
        self.assertEqual(all_parts(system.without(3)), (("x", "y"), rows[:3], rests))
        self.assertEqual(all_parts(system.without(2, 0)), (("x", "y"), (rows[1], rows[3]), rests))
        self.assertEqual(all_parts(system.without(0, 2)), (("x", "y"), (rows[1], rows[3]), rests))
        self.assertEqual(all_parts(system.without(3, 1, 0, 2)), (("x", "y"), (), rests))
        self.assertEqual(system.rows, rows)

    def test_renamed(self):
        rows, rests = (((1, 2, 3), 4),), (((5, 6, 7), 8, 9),)
        system = System(("x", "y", "z"), rows, rests)
        for given, names in (({}, ("x", "y", "z")), ({"x": "a"}, ("a", "y", "z")),
                             ({"x": "y", "y": "x"}, ("y", "x", "z")), ({"x": "y", "y": "z", "z": "x"}, ("y", "z", "x")),
                             ({"z": "names1", "x": "z"}, ("z", "y", "names1"))):
            self.assertEqual(all_parts(system.renamed(**given)), (names, rows, rests))
        odd = System(("system", "other", "one", "names1"), ())
        self.assertEqual(odd.renamed(system="x", other="y", one="z").names, ("x", "y", "z", "names1"))
        self.assertEqual(System(("text", "rows", "cls"), ()).renamed(text="a", rows="b", cls="c").names,
                         ("a", "b", "c"))

    def test_equate(self):
        rows, rests = (((1, 2, 3), 4),), (((5, 6, 7), 8, 9),)
        system = System(("x", "y", "z"), rows, rests)
        self.assertEqual(all_parts(system.equate("x", "y")), (system.names, rows + (((1, -1, 0), 0),), rests))
        self.assertEqual(all_parts(system.equate("z", "x")), (system.names, rows + (((-1, 0, 1), 0),), rests))
        self.assertEqual(all_parts(system.equate(one="y", other="z")), (system.names, rows + (((0, 1, -1), 0),), rests))
        self.assertEqual(all_parts(system.equate(other="y", one="z")), (system.names, rows + (((0, -1, 1), 0),), rests))
        self.assertEqual(all_parts(System(("a", "b"), ()).equate("b", "a")), (("a", "b"), (((-1, 1), 0),), ()))

    def test_results_are_systems(self):
        system = System(("x", "y"), (((1, 2), 3),))
        for one in (system & system, system.without(0), system.renamed(x="z"), system.equate("x", "y")):
            self.assertIs(type(one), System)


if __name__ == "__main__":
    unittest.main()
