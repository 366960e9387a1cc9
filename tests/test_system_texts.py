"""Point 7: texts of systems, and which strings are none."""

import random
import re
import unittest

from whateverboxes.errors import BadText, BoxError
from whateverboxes.systems import System

NAME = "[a-z][a-z0-9]{0,7}"
WORDS = ("check", "input", "keep", "let", "mod", "names", "open", "self", "take")
NATURAL = "(?:0|[1-9][0-9]{0,59})"
TERM = f"(?:(?!1 )[1-9][0-9]{{0,59}} )?{NAME}"
LINE = re.compile(f"(?P<sum>0|(?:- )?{TERM}(?: [+-] {TERM})*) = (?P<constant>-?{NATURAL})"
                  f"(?: mod (?P<modulus>{NATURAL}))?")


def expected(text):
    """The (names, rows, rests) of a text, or the first line that is not as described, by regular expressions."""
    lines = text.split("\n")
    if not re.fullmatch(f"names(?: {NAME}){{1,6}}", lines[0]):
        return 1
    names = tuple(lines[0].split(" ")[1:])
    if len(set(names)) < len(names) or set(names) & set(WORDS):
        return 1
    rows, rests = [], []
    for at, line in enumerate(lines[1:], start=2):
        match = LINE.fullmatch(line)
        if not match or match["constant"] == "-0":
            return at
        terms = re.findall(f"(- )?(?:([0-9]+) )?({NAME})", match["sum"])
        places = [names.index(name) if name in names else -1 for _, _, name in terms]
        if places != sorted(set(places)) or -1 in places:
            return at
        factors = [0] * len(names)
        for sign, factor, name in terms:
            factors[names.index(name)] = int(sign.strip() + (factor or "1"))
        if match["modulus"] is None:
            if rests:
                return at
            rows.append((tuple(factors), int(match["constant"])))
        else:
            if int(match["modulus"]) < 2:
                return at
            rests.append((tuple(factors), int(match["constant"]), int(match["modulus"])))
    return names, tuple(rows), tuple(rests)


def read(text):
    try:
        system = System.read(text)
    except BadText as error:
        return error.line
    return system.names, system.rows, system.rests


def some_integer(rng):
    kind = rng.randrange(8)
    if kind < 6:
        return rng.choice((0, 0, 1, 1, -1, 2, -2, 3, -9, 12))
    bound = 10 ** rng.choice((2, 5, 59, 60))
    return rng.randint(1 - bound, bound - 1)


def some_name(rng):
    while True:
        size = rng.choice((1, 1, 2, 5, 8))
        name = rng.choice("abcxyz") + "".join(rng.choice("abcxyz0189") for _ in range(size - 1))
        if name not in WORDS:
            return name


def some_system(rng):
    names = []
    for _ in range(rng.randint(1, 6)):
        name = some_name(rng)
        if name not in names:
            names.append(name)
    rows = tuple((tuple(some_integer(rng) for _ in names), some_integer(rng)) for _ in range(rng.randint(0, 4)))
    rests = tuple((tuple(some_integer(rng) for _ in names), some_integer(rng),
                   rng.choice((2, 3, 12, 10, 10 ** 60 - 1))) for _ in range(rng.randint(0, 3)))
    return System(tuple(names), rows, rests)


def bent_line(rng, line):
    """A line with one thing changed."""
    words = line.split(" ")
    at = rng.randrange(len(words))
    kind = rng.randrange(12)
    if kind == 0:
        del words[at]
    elif kind == 1:
        words.insert(at, words[at])
    elif kind == 2:
        other = rng.randrange(len(words))
        words[at], words[other] = words[other], words[at]
    elif kind == 3:
        words.insert(at, rng.choice(("+", "-", "=", "0", "1", "mod", "2", "x", "", "names")))
    elif kind == 4:
        words[at] = rng.choice(("+", "-", "=", "0", "1", "mod", "-1", "x", "", "names", "X", "_", "1x", "0x1"))
    elif kind == 5:
        words[at] = rng.choice(("0", "+", "-", "00", "1 ", " ", "\t", "a", "--")) + words[at]
    elif kind == 6:
        words[at] = words[at] + rng.choice(("0", "a", " ", "\t", "\r", "_", ".0", "1"))
    elif kind == 7 and words[at].lstrip("-").isdigit():
        words[at] = str(int(words[at]) + rng.choice((-1, 1, 10 ** 59, 10 ** 60, -(10 ** 60))))
    elif kind == 8:
        signs = list(" ".join(words))
        if signs:
            signs[rng.randrange(len(signs))] = rng.choice("+-=0123xyza \t\r_.")
        return "".join(signs)
    elif kind == 9:
        signs = list(" ".join(words))
        if signs:
            del signs[rng.randrange(len(signs))]
        return "".join(signs)
    elif kind == 10:
        return line.replace("+", "-", 1) if rng.randrange(2) else line.replace("-", "+", 1)
    else:
        return line + rng.choice((" mod 5", " mod 1", " mod 0", " mod -2", " mod", " = 0", " ", " x", "\x0b", "\x0c"))
    return " ".join(words)


def bent(rng, text):
    """A text with one thing changed."""
    lines = text.split("\n")
    at = rng.randrange(len(lines))
    kind = rng.randrange(9)
    if kind < 5:
        lines[at] = bent_line(rng, lines[at])
    elif kind == 5:
        other = rng.randrange(len(lines))
        lines[at], lines[other] = lines[other], lines[at]
    elif kind == 6:
        del lines[at]
    elif kind == 7:
        lines.insert(rng.randrange(len(lines) + 1), rng.choice(("", lines[at], "0 = 0", "0 = 1 mod 2", "names x")))
    else:
        return rng.choice(("\r\n", "\n\n", "\r", " \n", "\n ")).join(lines)
    return "\n".join(lines)


class WritingTest(unittest.TestCase):
    def test_examples(self):
        for factors, constant, line in (
                ((1, 2, -1), 3, "x + 2 y - z = 3"), ((0, 0, 0), 0, "0 = 0"), ((0, 0, 0), -7, "0 = -7"),
                ((0, -1, 1), -1, "- y + z = -1"), ((-3, 0, 0), 12, "- 3 x = 12"), ((0, 0, 1), 0, "z = 0"),
                ((-1, -1, -2), -40, "- x - y - 2 z = -40"), ((9, -9, 1), 1, "9 x - 9 y + z = 1"),
                ((10 ** 60 - 1, 0, 1 - 10 ** 60), 1 - 10 ** 60, f"{'9' * 60} x - {'9' * 60} z = -{'9' * 60}")):
            row = System(("x", "y", "z"), ((factors, constant),))
            self.assertEqual(str(row), f"names x y z\n{line}")
            rest = System(("x", "y", "z"), (), ((factors, constant, 4),))
            self.assertEqual(str(rest), f"names x y z\n{line} mod 4")
        self.assertEqual(str(System(("a",), ())), "names a")
        self.assertEqual(str(System(("abcdefg8", "b"), (((1, -1), 2),), (((0, 0), 0, 2), ((2, 1), -3, 12)))),
                         "names abcdefg8 b\nabcdefg8 - b = 2\n0 = 0 mod 2\n2 abcdefg8 + b = -3 mod 12")

    def test_reading_what_is_written(self):
        rng = random.Random(1)
        for _ in range(600):
            system = some_system(rng)
            text = str(system)
            self.assertIs(type(text), str)
            self.assertEqual(expected(text), (system.names, system.rows, system.rests))
            for again in (System.read(text), System.read(text=text)):
                self.assertIs(type(again), System)
                self.assertEqual((again.names, again.rows, again.rests), (system.names, system.rows, system.rests))
                self.assertEqual(str(again), text)
                for one in (again.names, again.rows, again.rests) + again.rows + again.rests:
                    self.assertIs(type(one), tuple)
                for row in again.rows + again.rests:
                    self.assertIs(type(row[0]), tuple)
                    self.assertTrue(all(type(entry) is int for entry in row[0] + row[1:]))


class ReadingTest(unittest.TestCase):
    def check(self, text, line):
        with self.assertRaises(BadText) as held:
            System.read(text)
        self.assertEqual(held.exception.line, line, text)
        self.assertIs(type(held.exception.line), int)
        self.assertIsInstance(held.exception, BoxError)
        self.assertEqual(expected(text), line, text)

    def test_read_examples(self):
        self.assertEqual(read("names x y z\nx + y - z = 0\n- y + z = -1 mod 4"),
                         (("x", "y", "z"), (((1, 1, -1), 0),), (((0, -1, 1), -1, 4),)))
        self.assertEqual(read("names x"), (("x",), (), ()))
        self.assertEqual(read("names x\n0 = 0"), (("x",), (((0,), 0),), ()))
        self.assertEqual(read("names b a\nb - a = 5\nb - a = 5"), (("b", "a"), (((1, -1), 5), ((1, -1), 5)), ()))

    def test_first_lines(self):
        for head in ("", " ", "names", "names ", " names x", "names  x", "names x ", "names x\t", "names\tx", "name x",
                     "Names x", "x y", "names x x", "names x y x", "names X", "names xY", "names 1x", "names x_y",
                     "names x-y", "names abcdefghi", "names a b c d e f g", "names a b c d e f g h", "names x,y",
                     "names x = 1", "names 5", "names -x", "names \u00e9", "names x\u0663", "names x\r", "0 = 0",
                     "x = 1", "names names x", "namesx", "names x\x0by", "names x\u2028y"):
            for tail in ("", "\nx = 1", "\nrubbish", "\n"):
                self.check(head + tail, 1)

    def test_words_that_are_no_names(self):
        for word in WORDS:
            self.check(f"names {word}", 1)
            self.check(f"names x {word} y\nx = 1", 1)
            near = word + "1"
            self.assertEqual(read(f"names {near}"), ((near,), (), ()))

    def test_one_to_six_names_of_one_to_eight_signs(self):
        for names in (("a",), ("a", "b", "c", "d", "e", "f"), ("abcdefgh", "a1234567", "z"), ("a0", "a00", "a")):
            self.assertEqual(read("names " + " ".join(names)), (names, (), ()))

    def test_lines_that_are_no_rows(self):
        for line in ("", " ", "x", "x =", "= 1", "x 1", "x == 1", "x = y", "x = 1 = 1", "x=1", "x = 1 ", " x = 1",
                     "x  = 1", "x =  1", "x\t= 1", "x = 1\t", "x = 1\r", "+ x = 1", "x + = 1", "x + + y = 1",
                     "x - - y = 1", "x y = 1", "2 = 2", "0 + x = 1", "x + 0 = 1", "1 x = 1", "0 x = 1", "x + 1 y = 1",
                     "x + 0 y = 1", "02 x = 1", "+2 x = 1", "-2 x = 1", "-x = 1", "x + -2 y = 1", "y + x = 1",
                     "x + x = 1", "2 x + x = 1", "x - x = 0", "x + y - x = 0", "u = 1", "x + u = 1", "2x = 1",
                     "x2 = 1", "2 3 x = 1", "x 2 = 1", "2 = x", "x = 01", "x = +1", "x = -0", "x = --1", "x = - 1",
                     "x = 1.0", "x = 1_0", "x = 0x1", "x = \u0661", "\u0662 x = 1", "x = \u00b2", "- 0 = 0", "0 = ",
                     "00 = 0", "-0 = 0", "0 0 = 0", "mod = 1", "names x y", "x = one", "2 = 0", "0 = 0 = 0", "-", "+",
                     "=", "- = 0", "x - = 0", "x = 1 2"):
            self.check(f"names x y\n{line}", 2)
            self.check(f"names x y\nx = 1\n{line}\nrubbish", 3)
            if line != "":
                self.check(f"names x y\n0 = 0 mod 2\n{line} mod 5", 3)

    def test_lines_that_are_no_rests(self):
        for end in (" mod 1", " mod 0", " mod -2", " mod -0", " mod 02", " mod +2", " mod x", " mod", " mod ", "mod 2",
                    " mod  2", "  mod 2", " mod 2 ", " mod 2\t", " mod 2 mod 2", " mod 2 mod 3", " mod 2 2", " mod2",
                    " mod 1.0", " Mod 2", " mod \u0662", " mod = 2", " mod - 2"):
            self.check(f"names x y\nx + y = 1{end}", 2)
            self.check(f"names x y\nx = 0 mod 2\nx + y = 1{end}\n", 3)
        self.check("names x\nmod 2", 2)
        self.check("names x\n= 1 mod 2", 2)
        self.check("names x\nx = mod 2", 2)
        self.check("names x\nx mod 2 = 1", 2)
        self.assertEqual(read("names x\nx = 1 mod 2"), (("x",), (), (((1,), 1, 2),)))

    def test_rows_behind_rests(self):
        self.check("names x\nx = 1 mod 2\nx = 1", 3)
        self.check("names x\nx = 1\nx = 1 mod 2\nx = 1 mod 3\nx = 1\nx = 1 mod 2", 5)
        self.check("names x\nx = 1 mod 2\n0 = 0", 3)

    def test_other_ends_of_lines(self):
        self.check("names x\n", 2)
        self.check("names x\nx = 1\n", 3)
        self.check("names x\nx = 1 mod 2\n", 3)
        self.check("\nnames x\nx = 1", 1)
        self.check("names x\n\nx = 1", 2)
        self.check("names x\r\nx = 1", 1)
        self.check("names x\nx = 1\r\nx = 2", 2)
        self.check("names x\rx = 1", 1)
        self.check("names x\nx = 1\rx = 2", 2)
        self.check("names x\nx = 1\x0bx = 2", 2)
        self.check("names x\nx = 1\x0cx = 2", 2)
        self.check("names x\nx = 1\u2028x = 2", 2)
        self.check("names x\nx = 1\x1cx = 2", 2)
        self.check("names x\nx = 1\x85x = 2", 2)

    def test_integers_of_many_digits(self):
        for digits in ("9" * 60, "1" + "0" * 59):
            value = int(digits)
            self.assertEqual(read(f"names x\n{digits} x = -{digits} mod {digits}"),
                             (("x",), (), (((value,), -value, value),)))
            self.assertEqual(read(f"names x\n- {digits} x = {digits}"), (("x",), (((-value,), value),), ()))
        for digits in ("1" + "0" * 60, "9" * 61, "7" * 5000, "0" * 5000, "0" * 61, "1" * 20000):
            for line in (f"{digits} x = 1", f"- {digits} x = 1", f"x = {digits}", f"x = -{digits}",
                         f"x = 1 mod {digits}", f"0 = {digits}"):
                self.check(f"names x\n{line}", 2)
                self.check(f"names x\nx = 1\n{line}\nrubbish", 3)

    def test_limits_are_not_looked_at(self):
        lines = ["100 x - 1000 y = 99999"] * 40 + ["x = 77 mod 1234"] * 30
        found = read("\n".join(["names x y"] + lines))
        self.assertEqual(found, (("x", "y"), (((100, -1000), 99999),) * 40, (((1, 0), 77, 1234),) * 30))

    def test_bent_texts(self):
        rng = random.Random(2)
        seen = {True: 0, False: 0}
        for _ in range(6000):
            text = str(some_system(rng))
            for _ in range(rng.choice((1, 1, 1, 2))):
                text = bent(rng, text)
            wanted = expected(text)
            self.assertEqual(read(text), wanted, text)
            seen[type(wanted) is int] += 1
        self.assertGreater(min(seen.values()), 300)

    def test_small_texts_by_going_through_all(self):
        words = ("x", "y", "+", "-", "0", "1", "2")
        lines = [""]
        for _ in range(4):
            lines = lines + [f"{line} {word}".strip() for line in lines for word in words if len(line.split()) < 4]
        seen = {True: 0, False: 0}
        for line in sorted(set(lines)):
            text = f"names x y\n{line} = 1"
            wanted = expected(text)
            self.assertEqual(read(text), wanted, text)
            seen[type(wanted) is int] += 1
        self.assertGreater(min(seen.values()), 15)


if __name__ == "__main__":
    unittest.main()
