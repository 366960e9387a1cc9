"""Point 8: what a program of sums asks of the names that it keeps."""

import random
import re
import unittest

from tests.oracles import box, fulfils, is_asked, is_met, program_of, walk
from tests.test_programs import some_program, some_sum
from whateverboxes.errors import Failed
from whateverboxes.programs import Program
from whateverboxes.systems import System


def asks(text):
    return Program.read(text).system()


def runs_in_a_box(program, bound):
    """What all runs with inputs from -bound to bound give to the kept names."""
    found = set()
    for inputs in box(len(program.taken), -bound, bound):
        try:
            values = dict(program.run(**dict(zip(program.taken, inputs))))
        except Failed:
            continue
        found.add(tuple(values[name] for name in program.kept))
    return found


def is_plain(system):
    """Whether a system consists of tuples of integers, with moduli from 2 on."""
    parts = system.names, system.rows, system.rests
    lines = system.rows + system.rests
    return (all(type(one) is tuple for one in parts + lines + tuple(line[0] for line in lines))
            and all(type(entry) is int for line in lines for entry in line[0] + line[1:])
            and all(len(line[0]) == len(system.names) for line in lines)
            and all(len(row) == 2 for row in system.rows) and all(len(rest) == 3 for rest in system.rests)
            and all(modulus >= 2 for _, _, modulus in system.rests))


class SystemTest(unittest.TestCase):
    def same(self, text, other):
        system, wanted = asks(text), System.read(other)
        self.assertTrue(is_plain(system))
        self.assertTrue(system.is_same(wanted), (text, str(system)))
        self.assertTrue(wanted.is_same(system), (text, str(system)))

    def test_examples(self):
        self.same("take x\ntake d\nlet y = x + d\nlet z = x + 2 d\nkeep x y z", "names x y z\nx - 2 y + z = 0")
        self.same("take x\nkeep x", "names x")
        self.same("take x\ntake y\nkeep y x", "names y x")
        self.same("take x\nlet y = 2 x\nkeep y", "names y\ny = 0 mod 2")
        self.same("take x\nlet y = 2 x + 3\nkeep y x", "names y x\ny - 2 x = 3")
        self.same("let y = 3\nkeep y", "names y\ny = 3")
        self.same("take x\ncheck x = 1 mod 3\nkeep x", "names x\nx = 1 mod 3")
        self.same("take x\ncheck x = 5\nlet y = x + x\nkeep y", "names y\ny = 10")
        self.same("take x\ncheck 2 x = 5\nkeep x", "names x\n0 = 1")
        self.same("take x\ncheck 2 x = 1 mod 4\nkeep x", "names x\n0 = 1")
        self.same("take x\ncheck 2 x = 2 mod 4\nkeep x", "names x\nx = 1 mod 2")
        self.same("check 0 = 1\nlet x = 3\nkeep x", "names x\n0 = 1")
        self.same("check 0 = 2 mod 2\nlet x = 3\nkeep x", "names x\nx = 3")
        self.same("take a\ntake b\nlet x = 4 a + 6 b + 1\nkeep x", "names x\nx = 1 mod 2")
        self.same("take a\ntake b\nlet x = a + b\nlet y = a - b\nkeep x y", "names x y\nx + y = 0 mod 2")
        self.same("take a\nlet x = 2 a\nlet y = 3 a\nkeep x y", "names x y\n3 x - 2 y = 0")
        self.same("take a\nlet x = 2 a\nlet y = 2 a\nkeep x y", "names x y\nx - y = 0\nx = 0 mod 2")
        self.same("take a\ntake b\nlet x = 2 a\nlet y = 3 b\nkeep x y", "names x y\nx = 0 mod 2\ny = 0 mod 3")
        self.same("take a\ntake b\ncheck a = b mod 2\nlet x = a + b\nkeep x", "names x\nx = 0 mod 2")
        self.same("take a\ntake b\ncheck a = 2 b\nkeep a", "names a\na = 0 mod 2")
        self.same("take a\ncheck a = 1 mod 2\ncheck a = 2 mod 3\nkeep a", "names a\na = 5 mod 6")
        self.same("take a\nlet x = 0 a\nkeep x", "names x\nx = 0")

    def test_names_are_the_kept_ones_in_their_order(self):
        text = "take x\ntake d\nlet y = x + d\nlet z = x + 2 d\nkeep "
        for kept in ("x", "z", "y x", "z d y", "d z x y"):
            self.assertEqual(asks(text + kept).names, tuple(kept.split()))
        self.assertEqual(asks("let y = 3\nlet x = 4\ncheck 0 = 1\nkeep x y").names, ("x", "y"))

    def test_told_again_it_is_the_same(self):
        rng = random.Random(1)
        for _ in range(60):
            text = some_program(rng)
            program = Program.read(text)
            first = program.system()
            for again in (program.system(), Program.read(text).system()):
                self.assertEqual((again.names, again.rows, again.rests), (first.names, first.rows, first.rests))
            self.assertEqual(str(program), text)

    def test_the_text_can_be_read(self):
        rng = random.Random(2)
        for _ in range(150):
            system = asks(some_program(rng, 3, 3, 2, 6))
            again = System.read(str(system))
            self.assertEqual((again.names, again.rows, again.rests), (system.names, system.rows, system.rests))

    def test_against_all_runs_in_a_box(self):
        rng = random.Random(3)
        empty = partly = 0
        for _ in range(400):
            text = some_program(rng, 2, 3, 2, 3)
            program, lines = Program.read(text), program_of(text)
            system = program.system()
            self.assertEqual(system.names, program.kept)
            self.assertTrue(is_plain(system))
            given = runs_in_a_box(program, 8)
            for numbers in given:
                self.assertTrue(fulfils(system.rows, system.rests, numbers), (text, numbers))
            width = len(program.kept)
            inside = 0
            for numbers in box(width, -4, 4):
                told = system.fulfils(numbers)
                inside += told
                if told != (numbers in given):
                    # The inputs of such a run are outside of the box.
                    self.assertEqual(told, is_asked(lines, numbers), (text, numbers))
            empty += not inside
            partly += 0 < inside < 9 ** width
        self.assertGreater(empty, 60)
        self.assertGreater(partly, 60)

    def test_against_determinants(self):
        rng = random.Random(4)
        seen = {True: 0, False: 0}
        for _ in range(250):
            text = some_program(rng, 3, 3, 2, 3)
            system, lines = asks(text), program_of(text)
            point = system.point()
            near = [tuple(rng.randint(-6, 6) for _ in system.names) for _ in range(4)]
            if point is not None:
                near += [tuple(map(sum, zip(point, move))) for move in ((0,) * len(point),) + system.moves()]
            for numbers in near:
                told = system.fulfils(numbers)
                seen[told] += 1
                self.assertEqual(told, is_asked(lines, numbers), (text, numbers))
        self.assertGreater(min(seen.values()), 200)

    def test_programs_of_the_greatest_size(self):
        rng = random.Random(5)
        for _ in range(60):
            takes = [f"t{k}" for k in range(rng.randint(3, 5))]
            lines = [f"take {name}" for name in takes]
            given = list(takes)
            for k in range(8 - len(takes)):
                lines.append(f"let u{k} = {some_sum(rng, given)}")
                given.append(f"u{k}")
            for _ in range(5 - (8 - len(takes))):
                lines.append(f"check {some_sum(rng, given)} = {some_sum(rng, given)}{rng.choice(('', ' mod 4', ' mod 9'))}")
            text = "\n".join(lines + ["keep " + " ".join(rng.sample(given, 6))])
            program = Program.read(text)
            system = program.system()
            self.assertTrue(is_plain(system))
            for _ in range(100):
                inputs = {name: rng.randint(-9, 9) for name in takes}
                values, checks = walk(program_of(text), inputs)
                if all(is_met(difference, modulus) for _, difference, modulus in checks):
                    self.assertTrue(system.fulfils(tuple(values[name] for name in program.kept)))

    def test_great_inputs_fulfil_too(self):
        rng = random.Random(6)
        met = 0
        for _ in range(300):
            program = Program.read(some_program(rng, 3, 3, 1, 4))
            system = program.system()
            inputs = {name: rng.randint(-10 ** 30, 10 ** 30) for name in program.taken}
            try:
                values = dict(program.run(**inputs))
            except Failed:
                continue
            met += 1
            self.assertTrue(system.fulfils(tuple(values[name] for name in program.kept)))
        self.assertGreater(met, 50)

    def test_kept_names_in_another_order(self):
        rng = random.Random(7)
        for _ in range(100):
            text = some_program(rng, 3, 3, 1, 4)
            head, last = text.rsplit("\n", 1)
            kept = last.split()[1:]
            turned = asks("\n".join([head, " ".join(["keep"] + kept[::-1])]))
            system = asks(text)
            for numbers in box(len(kept), -2, 2):
                self.assertEqual(system.fulfils(numbers), turned.fulfils(numbers[::-1]))

    def test_fewer_kept_names(self):
        rng = random.Random(8)
        for _ in range(100):
            text = some_program(rng, 3, 2, 1, 4)
            head, last = text.rsplit("\n", 1)
            kept = last.split()[1:]
            system, fewer = asks(text), asks("\n".join([head, f"keep {kept[0]}"]))
            inside = {numbers[0] for numbers in box(len(kept), -4, 4) if system.fulfils(numbers)}
            for number in inside:
                self.assertTrue(fewer.fulfils((number,)), text)
            if system.point() is not None:
                self.assertTrue(fewer.fulfils(system.point()[:1]))
            self.assertEqual(system.point() is None, fewer.point() is None)


class PutOtherwiseTest(unittest.TestCase):
    def same(self, text, other):
        one, two = asks(text), asks(other)
        self.assertIs(one.is_same(two), True, (text, other))
        self.assertIs(two.is_same(one), True, (text, other))

    def test_passing_names_called_otherwise(self):
        rng = random.Random(11)
        for _ in range(150):
            text = some_program(rng, 3, 3, 2, 2)
            program = Program.read(text)
            other = text
            for k, name in enumerate(name for name in program.names if name not in program.kept):
                other = re.sub(f"\\b{name}\\b", f"z{k}q", other)
            self.assertEqual(Program.read(other).kept, program.kept)
            self.same(text, other)

    def test_a_sum_split_into_two(self):
        rng = random.Random(12)
        split = 0
        for _ in range(300):
            text = some_program(rng, 3, 3, 1, 3)
            match = re.search("let ([a-z0-9]+) = (.*) ([+-]) ([^+\n-]*)$", text, re.MULTILINE)
            if not match:
                continue
            split += 1
            name, left, sign, right = match.groups()
            for lines in ((f"let q1 = {left}", f"let {name} = q1 {sign} {right}"),
                          (f"let q1 = {right}", f"let {name} = {left} {sign} q1"),
                          (f"let q1 = {right}", "let q2 = 2 q1", f"let {name} = {left} {sign} q2 + 0 - 1 q1 + q1 "
                           + ("- q1" if sign == "+" else "+ q1"))):
                self.same(text, text.replace(match[0], "\n".join(lines)))
        self.assertGreater(split, 60)

    def test_checks_written_twice_or_with_sides_exchanged(self):
        rng = random.Random(13)
        turned = 0
        for _ in range(300):
            text = some_program(rng, 3, 2, 2, 3)
            match = re.search("check (.*) = (.*?)( mod [0-9]+)?$", text, re.MULTILINE)
            if not match:
                continue
            turned += 1
            left, right, end = match[1], match[2], match[3] or ""
            self.same(text, text.replace(match[0], f"{match[0]}\n{match[0]}"))
            self.same(text, text.replace(match[0], f"check {right} = {left}{end}"))
            self.same(text, text.replace(match[0], f"check {left} + 7 = {right} + 7{end}"))
        self.assertGreater(turned, 100)

    def test_lines_exchanged(self):
        rng = random.Random(14)
        exchanged = 0
        for _ in range(300):
            text = some_program(rng, 3, 3, 2, 3)
            *lines, last = text.split("\n")
            rng.shuffle(lines)
            other = "\n".join(lines + [last])
            if other != text and type(program_of(other)) is list:
                exchanged += 1
                self.same(text, other)
        self.assertGreater(exchanged, 60)

    def test_a_taken_name_that_nothing_uses(self):
        rng = random.Random(15)
        for _ in range(100):
            text = some_program(rng)
            lines = text.split("\n")
            lines.insert(rng.randrange(len(lines)), "take unused")
            self.same(text, "\n".join(lines))

    def test_a_further_check_of_the_kept_names(self):
        rng = random.Random(16)
        less = 0
        for _ in range(200):
            text = some_program(rng, 3, 2, 1, 3)
            head, last = text.rsplit("\n", 1)
            kept = last.split()[1:]
            end = rng.choice(("", " mod 2", " mod 6"))
            factors, constant = [rng.randint(1, 4) for _ in kept], rng.randint(0, 9)
            total = " + ".join(f"{factor} {name}" for factor, name in zip(factors, kept))
            more = asks(f"{head}\ncheck {total} = {constant}{end}\n{last}")
            system = asks(text)
            self.assertIs(more.brings(system), True)
            modulus = int(end.split()[1]) if end else 0
            row = (tuple(factors), constant)
            wanted = System(tuple(kept), () if modulus else (row,), (row + (modulus,),) if modulus else ())
            self.assertIs(more.is_same(system & wanted), True)
            less += not system.brings(more)
        self.assertGreater(less, 60)

    def test_other_programs_ask_otherwise(self):
        one = asks("take x\nlet y = x + 1\nkeep x y")
        for other in ("take x\nlet y = x + 2\nkeep x y", "take x\nlet y = 2 x + 1\nkeep x y",
                      "take x\nlet y = x + 1\nkeep y x", "take x\nlet y = x + 1\ncheck x = 0 mod 2\nkeep x y",
                      "take x\ntake y\nkeep x y", "take x\nlet z = x + 1\nkeep x z"):
            self.assertIs(one.is_same(asks(other)), False, other)


if __name__ == "__main__":
    unittest.main()
