"""Point 8: texts and runs of programs, and which strings are no programs."""

import random
import unittest

from tests.oracles import RESERVED, is_met, program_of, walk
from whateverboxes.errors import BadText, BoxError, Failed
from whateverboxes.programs import Program

LINE = "take x\ntake y\nlet z = x + 2 y\n"


def some_name(rng, given):
    while True:
        name = rng.choice("abcx") + rng.choice(("", "", "1", "a", "bc0", "abcdefg"))
        if name not in given and name not in RESERVED:
            return name


def some_sum(rng, given, great=False):
    """A sum of given names and of integers."""
    words = []
    for k in range(rng.choice((1, 1, 2, 2, 3, 5))):
        if words or rng.randrange(3) == 0:
            words.append(rng.choice("+-") if words else "-")
        number = str(rng.choice((10 ** 20, 10 ** 60 - 1)) if great and rng.randrange(6) == 0 else rng.randint(0, 9))
        if given and rng.randrange(4):
            words += [number] * rng.randrange(2) + [rng.choice(given)]
        else:
            words.append(number)
    return " ".join(words)


def some_program(rng, takes=3, lets=3, checks=2, keeps=3, great=False):
    """A text of a program: lines in any order that point 8 allows."""
    kinds = (["take"] * rng.randint(0, takes) + ["let"] * rng.randint(0, lets) + ["check"] * rng.randint(0, checks))
    rng.shuffle(kinds)
    if kinds.count("take") + kinds.count("let") == 0:
        kinds.append("take")
    given, lines = [], []
    for kind in kinds:
        if kind == "check":
            end = rng.choice(("", " mod 2", " mod 3", " mod 9"))
            lines.append(f"check {some_sum(rng, given, great)} = {some_sum(rng, given, great)}{end}")
            continue
        name = some_name(rng, given)
        lines.append(f"take {name}" if kind == "take" else f"let {name} = {some_sum(rng, given, great)}")
        given.append(name)
    kept = rng.sample(given, rng.randint(1, min(keeps, len(given))))
    return "\n".join(lines + [" ".join(["keep"] + kept)])


def read(text):
    try:
        return Program.read(text)
    except BadText as error:
        return error.line


def bent_words(rng, words):
    at = rng.randrange(len(words))
    kind = rng.randrange(9)
    if kind == 0:
        return words[:at] + words[at + 1:]
    if kind == 1:
        return words[:at] + [words[at]] + words[at:]
    if kind == 2:
        return rng.sample(words, len(words)) if rng.randrange(3) == 0 else words[:at] + words[at + 1:] + [words[at]]
    more = rng.choice(("+", "-", "=", "0", "1", "2", "x", "a", "", "mod", "check", "let", "take", "keep", "01", "-1",
                       "+1", "A", "a_", "\t", "9" * 60, "1" + "0" * 60))
    if kind in (3, 4):
        return words[:at] + [more] + words[at:]
    if kind == 5:
        return words[:at] + [more] + words[at + 1:]
    if kind == 6:
        return words[:at] + [rng.choice(("0", "-", "+", " ", "\t", "b", "1")) + words[at]] + words[at + 1:]
    if kind == 7:
        return words[:at] + [words[at] + rng.choice(("0", " ", "\t", "\r", "b", "_", ".", "1", "abcdefg"))] + words[at + 1:]
    return words + rng.choice((["mod", "2"], ["mod", "1"], ["mod", "0"], ["mod"], ["=", "0"], [""], ["mod", "-2"]))


def bent(rng, text):
    lines = text.split("\n")
    at = rng.randrange(len(lines))
    kind = rng.randrange(10)
    if kind < 5:
        lines[at] = " ".join(bent_words(rng, lines[at].split(" ")))
    elif kind == 5:
        del lines[at]
    elif kind == 6:
        lines.insert(rng.randrange(len(lines) + 1), lines[at])
    elif kind == 7:
        other = rng.randrange(len(lines))
        lines[at], lines[other] = lines[other], lines[at]
    elif kind == 8:
        lines.insert(rng.randrange(len(lines) + 1), rng.choice(("", "keep x", "keep a", "take x", "check 0 = 0", "x = 1")))
    else:
        return rng.choice(("\r\n", "\n\n", "\r", " \n", "\n ")).join(lines)
    return "\n".join(lines)


class ReadingTest(unittest.TestCase):
    def test_attributes(self):
        text = "take x\nlet y = 3\ntake d1\ncheck x = y\nlet abcdefgh = x + 2 d1 - y - 0 x + 1 x\nkeep abcdefgh x"
        for program in (Program.read(text), Program.read(text=text)):
            self.assertIs(type(program), Program)
            self.assertEqual(str(program), text)
            self.assertIs(type(str(program)), str)
            self.assertEqual(program.taken, ("x", "d1"))
            self.assertEqual(program.kept, ("abcdefgh", "x"))
            self.assertEqual(program.names, ("x", "y", "d1", "abcdefgh"))
            for one in (program.taken, program.kept, program.names):
                self.assertIs(type(one), tuple)

    def test_programs_without_inputs_or_sums(self):
        program = Program.read("let y = 3\nkeep y")
        self.assertEqual((program.taken, program.kept, program.names), ((), ("y",), ("y",)))
        program = Program.read("take b\ntake a\nkeep a b")
        self.assertEqual((program.taken, program.kept, program.names), (("b", "a"), ("a", "b"), ("b", "a")))

    def test_programs_do_not_share_anything(self):
        one = Program.read("take x\nkeep x")
        two = Program.read("let y = 1\nkeep y")
        self.assertEqual((one.taken, one.kept, one.names, str(one)), (("x",), ("x",), ("x",), "take x\nkeep x"))
        self.assertEqual((two.taken, two.kept, two.names, str(two)), ((), ("y",), ("y",), "let y = 1\nkeep y"))

    def test_sums(self):
        for text, value in (("x", 5), ("- x", -5), ("2 x", 10), ("0 x", 0), ("1 x", 5), ("7", 7), ("- 7", -7),
                            ("0", 0), ("- 0", 0), ("x + x", 10), ("x - x", 0), ("x + 2 x - 3", 12),
                            ("- 2 x + 3 y - 4 - 5 + x", 7), ("1 + 2 + 3", 6), ("9 - x", 4), ("3 - 2 x + x", -2),
                            ("- 1 x - 1 y", -12), (f"{'9' * 60} x", 5 * (10 ** 60 - 1)),
                            (f"- {'9' * 60} + y", 8 - 10 ** 60)):
            program = Program.read(f"take x\ntake y\nlet z = {text}\nkeep z")
            self.assertEqual(program.run(x=5, y=7), (("x", 5), ("y", 7), ("z", value)), text)
            for check, good in ((f"{text} = {value}".replace("= -", "= - "), True),
                                (f"{value} = {text}".replace("-", "- ").replace("  ", " "), True),
                                (f"{text} = {value + 1}".replace("= -", "= - "), False)):
                if abs(value) < 10 ** 60 - 1:
                    program = Program.read(f"take x\ntake y\ncheck {check}\nkeep x y")
                    if good:
                        self.assertEqual(program.run(x=5, y=7), (("x", 5), ("y", 7)))
                    else:
                        self.assertRaises(Failed, program.run, x=5, y=7)

    def test_reading_many(self):
        rng = random.Random(1)
        for _ in range(500):
            text = some_program(rng, 4, 5, 3, 6, True)
            lines = program_of(text)
            self.assertIs(type(lines), list, text)
            program = Program.read(text)
            self.assertEqual(str(program), text)
            self.assertEqual(program.taken, tuple(name for kind, name, *_ in lines if kind == "take"))
            self.assertEqual(program.kept, lines[-1][1])
            self.assertEqual(program.names, tuple(name for kind, name, *_ in lines if kind in ("take", "let")))

    def test_limits_are_not_looked_at(self):
        lines = [f"take a{k}" for k in range(30)] + [f"let b{k} = a{k} + 100 a{29 - k}" for k in range(30)]
        text = "\n".join(lines + ["check b0 = b1 mod 1000"] * 30 + ["keep b0 b29 a3"])
        program = Program.read(text)
        self.assertEqual(str(program), text)
        self.assertEqual(program.taken, tuple(f"a{k}" for k in range(30)))
        self.assertEqual(program.names, program.taken + tuple(f"b{k}" for k in range(30)))
        self.assertEqual(program.kept, ("b0", "b29", "a3"))


class BadTextTest(unittest.TestCase):
    def check(self, text, line):
        with self.assertRaises(BadText) as held:
            Program.read(text)
        self.assertEqual(held.exception.line, line, text)
        self.assertIs(type(held.exception.line), int)
        self.assertIsInstance(held.exception, BoxError)
        self.assertEqual(program_of(text), line, text)

    def check_line(self, line):
        """A line that may stand nowhere behind LINE."""
        self.check(f"{LINE}{line}\nkeep x", 4)
        self.check(f"{LINE}check x = y\n{line}\nrubbish", 5)
        self.check(f"{LINE}{line}", 4)

    def check_good(self, line):
        self.assertIs(type(program_of(f"{LINE}{line}\nkeep x")), list, line)
        self.assertIs(type(read(f"{LINE}{line}\nkeep x")), Program, line)

    def test_empty_and_short_texts(self):
        self.check("", 1)
        self.check(" ", 1)
        self.check("keep", 1)
        self.check("keep x", 1)
        self.check("take x", 1)
        self.check("let x = 1", 1)
        self.check("check 1 = 1", 1)
        self.check("rubbish", 1)
        self.check("take x\n", 2)
        self.check("\n", 1)
        self.check("\nkeep x", 1)
        self.check("take x\nkeep x\n", 2)
        self.check("take x\n\nkeep x", 2)
        self.check("names x\nx = 1", 1)

    def test_names_given_twice(self):
        for line in ("take x", "take z", "let x = 1", "let z = x", "let y = y + 1", "let z = 2 z"):
            self.check_line(line)

    def test_names_used_ahead_of_their_line_or_not_given(self):
        self.check("take x\nlet y = z\nlet z = x\nkeep y", 2)
        self.check("take x\ncheck x = z\ntake z\nkeep x", 2)
        self.check("take x\ncheck z = x mod 2\ntake z\nkeep x", 2)
        self.check("let z = 2 z\nkeep z", 1)
        self.check("take x\nlet y = x + z\nkeep y", 2)
        for line in ("let a = b", "let a = a", "let a = x + b", "let a = x - 2 b", "check u = 1", "check 1 = u",
                     "check x = y + u mod 3", "check 0 u = 0", "check x = x1", "let a = 0 b"):
            self.check_line(line)
        self.check(f"{LINE}keep x u", 4)
        self.check(f"{LINE}keep u", 4)

    def test_keep_lines(self):
        for line in ("keep", "keep ", "keep  x", "keep x ", " keep x", "keep x x", "keep x y x", "keep x u", "Keep x",
                     "keep\tx", "keep x\ty", "keep x, y", "keepx", "keep x = 1", "keep 1", "keep -x", "keep keep",
                     "keep x + y", "keep 2 x", "keep x\r", "keep take", "keep mod", "keep x mod 2"):
            self.check(f"{LINE}{line}", 4)
        self.check(f"{LINE}keep x\nkeep x", 4)
        self.check(f"{LINE}keep x\nlet a = 1\nkeep x", 4)
        self.check("take x\nkeep x\ntake y\nrubbish\nkeep y", 2)
        self.check("take x\nkeep y\nkeep x", 2)
        self.check("keep x\ntake x\nkeep x", 1)
        many = "".join(f"take a{k}\n" for k in range(7))
        self.check(many + "keep " + " ".join(f"a{k}" for k in range(7)), 8)
        good = read(many + "keep " + " ".join(f"a{k}" for k in range(6)))
        self.assertEqual(good.kept, tuple(f"a{k}" for k in range(6)))

    def test_take_lines(self):
        for line in ("take", "take ", "take  a", "take a ", " take a", "take a b", "take a = 1", "take 1", "take A",
                     "take 1a", "take a_b", "take abcdefghi", "take \u00e9", "take a\u0663", "take -a", "Take a",
                     "take\ta", "take a\t", "take a\r", "takea", "a", "give a", "take + a", "take a\x0b", "input a"):
            self.check_line(line)
        for word in RESERVED:
            self.check_line(f"take {word}")
            self.check_line(f"let {word} = 1")
            self.check_good(f"take {word}1")
        for name in ("a", "abcdefgh", "a1234567", "a0", "xy", "x1", "takes", "names1", "lets", "i", "if", "none"):
            self.check_good(f"take {name}")
            self.check_good(f"let {name} = 1")

    def test_let_lines(self):
        for line in ("let", "let a", "let a =", "let a = ", "let a x", "let = 1", "let a == 1", "let a = x = y",
                     "let a = = x", "let 2 a = x", "let a + x = y", "let - a = x", "let a b = x", "let a=x",
                     "let a = x mod 2", "let a = x mod", "let  a = x", "let a  = x", "let a =  x", "let a = x ",
                     " let a = x", "Let a = x", "a = x", "let A = x", "let a1_ = x", "let abcdefghi = 1", "let a = b",
                     "let a := x", "let a = x\r", "let a = x\ty", "let a x = 1", "let a = mod", "let a = take",
                     "let a keep = 1"):
            self.check_line(line)

    def test_sums(self):
        for text in ("", "+ x", "+", "-", "- - x", "x +", "x -", "x + + y", "x - - y", "x + - y", "x - + y", "x y",
                     "2 3", "2 3 x", "x 2", "2 x 3", "-x", "-2", "+2", "-2 x", "x + -2", "x + -2 y", "02 x", "00",
                     "01", "x + 02", "2x", "x+y", "x + 2y", "x * y", "2 * x", "2 . x", "1.0", "1_0", "0x1", "1e3",
                     "(x)", "x  + y", "x +  y", " x", "x ", "x\t+ y", "x +\ty", "\u0661", "\u00b2 x", "X", "x + =",
                     "mod", "x mod", "2 mod", "mod 2", "x + mod 2", "2 -", "2 + x -", "-0", "- -0", "x + +0", "x\x0b",
                     "- + x", "--x", "\u2212 x", "0 0", "1" + "0" * 60, "9" * 61 + " x", "7" * 5000, "0" * 5000 + " x",
                     "x + " + "0" * 60, "0" * 61):
            self.check_line(f"let a = {text}")
            self.check_line(f"check {text} = 1")
            self.check_line(f"check {text} = x mod 2")
            self.check_line(f"check x = {text} mod 3")
            if text not in ("mod 2", "x + mod 2"):
                self.check_line(f"check 1 = {text}")
        for text in ("x", "- x", "0", "- 0", "0 x", "1 x", "- 1 x", "x + x + x", "10 x", "x - 10", "1 + 1", "- 0 x",
                     "0 + 0", "9" * 60, "1" + "0" * 59 + " x", "x - " + "9" * 60 + " z"):
            self.check_good(f"let a = {text}")
            self.check_good(f"check {text} = {text}")
            self.check_good(f"check {text} = {text} mod 7")

    def test_checks(self):
        for line in ("check", "check ", "check x", "check x =", "check = x", "check =", "check x = y = z", "check x == y",
                     "check x y", "check x=y", " check x = y", "check x = y ", "check  x = y", "check x  = y",
                     "Check x = y", "x = y", "check x = y mod", "check x = y mod 1", "check x = y mod 0",
                     "check x = y mod -2", "check x = y mod +2", "check x = y mod 02", "check x = y mod x",
                     "check x = y mod 2 x", "check x = y mod 2 mod 3", "check x = y mod 2 + 1", "check x mod 2 = y mod 2",
                     "check x mod 2 = y", "check x = mod 2", "check mod 2", "check mod 2 = x", "check = 1 mod 2",
                     "check x mod 2", "check 2 mod 2", "check x = y  mod 2", "check x = y mod  2", "check x = y mod 2 ",
                     "check x = y Mod 2", "check x = y mod 2.0", "check x = y mod \u0662", "check x = y mod " + "9" * 61,
                     "check x = y mod " + "9" * 5000, "check x = y mod 1" + "0" * 60, "check x = y mod 00",
                     "check x < y", "check x - y", "check x = y % 2", "check x = y mod - 2", "check = = ="):
            self.check_line(line)
        for line in ("check x = y", "check x = y mod 2", "check 0 = 0", "check 0 = 1", "check x + y = z - 1 mod 12",
                     "check 1 = 0 mod 2", "check x = y mod " + "9" * 60, "check x = x", "check - x = - 2 y"):
            self.check_good(line)

    def test_other_ends_of_lines(self):
        self.check("take x\r\nkeep x", 1)
        self.check("take x\rkeep x", 1)
        self.check("take x\nlet y = x\r\nkeep x", 2)
        self.check("take x\nkeep x\r", 2)
        self.check("take x\nkeep x\n", 2)
        self.check("take x\x0bkeep x", 1)
        self.check("take x\u2028keep x", 1)
        self.check("take x\nlet y = x\x85let z = y\nkeep x", 2)

    def test_integers_of_many_digits(self):
        for digits in ("9" * 60, "1" + "0" * 59):
            program = read(f"take x\nlet y = {digits} x - {digits}\ncheck y = 0 mod {digits}\nkeep y")
            self.assertEqual(program.run(x=3), (("x", 3), ("y", 2 * int(digits))))
        for digits in ("1" + "0" * 60, "9" * 61, "7" * 5000, "0" * 61, "1" * 19000):
            self.check(f"take x\nlet y = {digits}\nkeep y", 2)
            self.check(f"take x\nlet y = {digits} x\nkeep y", 2)
            self.check(f"take x\ncheck x = {digits}\nkeep x", 2)
            self.check(f"take x\ncheck x = 1 mod {digits}\nkeep x", 2)

    def test_bent_texts(self):
        rng = random.Random(2)
        seen = {True: 0, False: 0}
        for _ in range(8000):
            text = some_program(rng)
            for _ in range(rng.choice((1, 1, 1, 2))):
                text = bent(rng, text)
            wanted = program_of(text)
            found = read(text)
            seen[type(wanted) is int] += 1
            if type(wanted) is int:
                self.assertEqual(found, wanted, text)
                continue
            self.assertIs(type(found), Program, text)
            self.assertEqual(str(found), text)
            self.assertEqual(found.names, tuple(name for kind, name, *_ in wanted[:-1] if kind != "check"))
            self.check_run(rng, found, wanted)
        self.assertGreater(min(seen.values()), 800)

    def check_run(self, rng, program, lines):
        inputs = {name: rng.randint(-5, 5) for name in program.taken}
        values, checks = walk(lines, inputs)
        failed = [at for at, difference, modulus in checks if not is_met(difference, modulus)]
        try:
            self.assertEqual(program.run(**inputs), tuple(values.items()))
            self.assertEqual(failed, [])
        except Failed as error:
            self.assertEqual(failed[:1], [error.line])

    def test_small_texts_by_going_through_all(self):
        words = ("x", "+", "-", "0", "2", "=", "mod")
        lines = [""]
        for _ in range(5):
            lines = lines + [f"{line} {word}".strip() for line in lines for word in words if len(line.split()) < 5]
            lines = sorted(set(lines))
        seen = {True: 0, False: 0}
        for line in lines:
            text = f"take x\ncheck {line}\nkeep x"
            wanted = program_of(text)
            found = read(text)
            self.assertEqual(found if type(found) is int else 0, wanted if type(wanted) is int else 0, text)
            seen[type(wanted) is int] += 1
        self.assertGreater(min(seen.values()), 50)


class RunTest(unittest.TestCase):
    def test_examples(self):
        program = Program.read("take x\ntake d\nlet y = x + d\nlet z = x + 2 d\nkeep x y z")
        self.assertEqual(program.run(x=1, d=2), (("x", 1), ("d", 2), ("y", 3), ("z", 5)))
        self.assertEqual(program.run(d=2, x=1), (("x", 1), ("d", 2), ("y", 3), ("z", 5)))
        self.assertEqual(program.run(x=0, d=-3), (("x", 0), ("d", -3), ("y", -3), ("z", -6)))
        self.assertEqual(program.run(**{"x": 10 ** 30, "d": -10 ** 30}),
                         (("x", 10 ** 30), ("d", -10 ** 30), ("y", 0), ("z", -10 ** 30)))
        self.assertEqual(Program.read("let y = 3\nkeep y").run(), (("y", 3),))

    def test_the_order_of_the_lines(self):
        program = Program.read("let c = 1\ntake b\nlet a = b + c\ntake d\nkeep d a")
        self.assertEqual(program.run(d=5, b=2), (("c", 1), ("b", 2), ("a", 3), ("d", 5)))

    def test_names_that_could_be_confused(self):
        program = Program.read("take system\ntake text\ntake inputs\ntake values\ntake at\ntake line\nlet run = text\nkeep run")
        self.assertEqual(program.run(system=1, text=2, inputs=3, values=4, at=5, line=6),
                         (("system", 1), ("text", 2), ("inputs", 3), ("values", 4), ("at", 5), ("line", 6), ("run", 2)))
        program = Program.read("take name\ntake word\ntake modulus\ntake terms\ntake one\ntake total\nkeep one")
        self.assertEqual(program.run(name=1, word=2, modulus=3, terms=4, one=5, total=6)[4], ("one", 5))

    def test_checks(self):
        program = Program.read("take x\ncheck x = 3 mod 5\ncheck x = 8\nkeep x")
        self.assertEqual(program.run(x=8), (("x", 8),))
        for x, line in ((3, 3), (13, 3), (-2, 3), (4, 2), (0, 2), (-8, 2), (-3, 2), (10 ** 30 + 3, 3), (10 ** 30, 2)):
            with self.assertRaises(Failed) as held:
                program.run(x=x)
            self.assertEqual(held.exception.line, line)
            self.assertIs(type(held.exception.line), int)
            self.assertIsInstance(held.exception, BoxError)

    def test_the_first_check_that_fails(self):
        program = Program.read("take x\ncheck x = x\ntake y\ncheck x = 0 mod 2\nlet z = x + y\ncheck z = 4\ncheck y = 1\nkeep x")
        for inputs, line in (({"x": 1, "y": 1}, 4), ({"x": 1, "y": 3}, 4), ({"x": 2, "y": 1}, 6), ({"x": 4, "y": 0}, 7)):
            with self.assertRaises(Failed) as held:
                program.run(**inputs)
            self.assertEqual(held.exception.line, line)
        with self.assertRaises(Failed) as held:
            Program.read("check 0 = 1\nlet x = 1\nkeep x").run()
        self.assertEqual(held.exception.line, 1)

    def test_one_run_does_not_hang_on_another(self):
        program = Program.read("take x\ntake y\ncheck x = y mod 3\nlet z = x - y\nkeep z")
        first = program.run(x=5, y=2)
        self.assertRaises(Failed, program.run, x=5, y=3)
        self.assertEqual(program.run(x=4, y=1), (("x", 4), ("y", 1), ("z", 3)))
        self.assertEqual(first, (("x", 5), ("y", 2), ("z", 3)))
        self.assertEqual(program.run(x=5, y=2), first)
        inputs = {"x": 5, "y": 2}
        program.run(**inputs)
        self.assertEqual(inputs, {"x": 5, "y": 2})

    def test_many(self):
        rng = random.Random(3)
        seen = {True: 0, False: 0}
        for _ in range(800):
            text = some_program(rng, 4, 4, 3, 6, True)
            program, lines = Program.read(text), program_of(text)
            for bound in (3, 10, 10 ** 30):
                inputs = {name: rng.randint(-bound, bound) for name in program.taken}
                values, checks = walk(lines, inputs)
                failed = [at for at, difference, modulus in checks if not is_met(difference, modulus)]
                seen[not failed] += 1
                if failed:
                    with self.assertRaises(Failed) as held:
                        program.run(**inputs)
                    self.assertEqual(held.exception.line, failed[0])
                else:
                    pairs = program.run(**inputs)
                    self.assertEqual(pairs, tuple(values.items()))
                    self.assertTrue(type(pairs) is tuple and all(type(pair) is tuple for pair in pairs))
        self.assertGreater(min(seen.values()), 300)


if __name__ == "__main__":
    unittest.main()
