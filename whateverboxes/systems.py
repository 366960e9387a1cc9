"""Systems of linear equations and of remainders: their integer tuples, their parts and their texts."""

from whateverboxes.errors import BadText
from whateverboxes.tables import dot, kernel
from whateverboxes.words import are_names, is_whole, read_sum, without_modulus, write_sum


class System:
    """Rows (factors, constant) and rests (factors, constant, modulus) that the integers of names must fulfil."""

    def __init__(self, names, rows, rests=()):
        self.names = names
        self.rows = rows
        self.rests = rests

    def fulfils(self, numbers):
        """Whether a tuple of integers, one for each name, fulfils all rows and rests."""
        if any([dot(factors, numbers) != constant for factors, constant in self.rows]):
            return False
        return not any([(dot(factors, numbers) - constant) % modulus for factors, constant, modulus in self.rests])

    def point(self):
        """The integer tuple that fulfils the system and is reduced by the moves; None if there is none."""
        lines = _solving_rows(self)
        return lines[0][1:] if lines and lines[0][0] == 1 else None

    def moves(self):
        """The Hermite form of the group of all moves."""
        return tuple([line[1:] for line in _solving_rows(self) if not line[0]])

    def plain_rows(self):
        """The Hermite form of the group of all rows that vanish on each direction."""
        width = len(self.names)
        directions = kernel(tuple([factors for factors, _ in self.rows]), width)
        return kernel(directions, width)

    def brings(self, other):
        """Whether the names are the same and every integer tuple that fulfils this system fulfils the other one."""
        if self.names != other.names:
            return False
        point = self.point()
        if point is None:
            return True
        plain = without_constants(other)
        return other.fulfils(point) and all([plain.fulfils(move) for move in self.moves()])

    def is_same(self, other):
        """Whether the names are the same and the same integer tuples fulfil both systems."""
        return self.brings(other) and other.brings(self)

    def __and__(self, other):
        names = self.names + tuple([name for name in other.names if name not in self.names])
        rows = _spread(self.rows, self.names, names) + _spread(other.rows, other.names, names)
        rests = _spread(self.rests, self.names, names) + _spread(other.rests, other.names, names)
        return System(names, rows, rests)

    def without(self, *indexes):
        """The system without the rows that have these indexes."""
        rows = tuple([row for k, row in enumerate(self.rows) if k not in indexes])
        return System(self.names, rows, self.rests)

    def renamed(self, **names):
        """The system with the given names in the place of those that are the keywords."""
        return System(tuple([names.get(name, name) for name in self.names]), self.rows, self.rests)

    def equate(self, one, other):
        """The system with one row more, by which two names have the same integer."""
        factors = tuple([1 if name == one else -1 if name == other else 0 for name in self.names])
        return System(self.names, self.rows + ((factors, 0),), self.rests)

    def __str__(self):
        head = [" ".join(["names", *self.names])]
        return "\n".join(head + [_write_line(self.names, line) for line in self.rows + self.rests])

    @staticmethod
    def read(text):
        """The system of a text. Raises BadText(line) with the first line that is not as described."""
        head, *lines = text.split("\n")
        first, *words = head.split(" ")
        if first != "names" or not are_names(words):
            raise BadText(1)
        names = tuple(words)
        rows = []
        rests = []
        for at, line in enumerate(lines, start=2):
            parts = _read_line(names, line)
            if len(parts) == 3:
                rests.append(parts)
            elif len(parts) == 2 and not rests:
                rows.append(parts)
            else:
                raise BadText(at)
        return System(names, tuple(rows), tuple(rests))


def _solving_rows(system):
    """The Hermite form of all (times, *numbers) that fulfil the system with its constants taken so many times.

    Only the first row may have times that are not 0. For each rest there is one integer more behind the
    numbers, which tells how many moduli are taken. It is 0 if all the others are, so it has no lead, and what
    is left without it is still a Hermite form.
    """
    count = len(system.rests)
    table = [(-constant, *factors) + (0,) * count for factors, constant in system.rows]
    for k, (factors, constant, modulus) in enumerate(system.rests):
        table.append((-constant, *factors) + (0,) * k + (modulus,) + (0,) * (count - k - 1))
    width = 1 + len(system.names)
    return [line[:width] for line in kernel(tuple(table), width + count)]


def without_constants(system):
    """The system that is fulfilled by exactly the moves of this one."""
    rows = tuple([(factors, 0) for factors, _ in system.rows])
    return System(system.names, rows, tuple([(factors, 0, modulus) for factors, _, modulus in system.rests]))


def _spread(lines, old, names):
    """The rows or rests with each factor at the place that its name has among the names."""
    return tuple([(tuple([_factor(factors, old, name) for name in names]), *more) for factors, *more in lines])


def _factor(factors, old, name):
    return factors[old.index(name)] if name in old else 0


def _write_line(names, line):
    """The line of a row, or of a rest, which has a modulus behind its constant."""
    factors, constant, *modulus = line
    text = f"{write_sum(names, factors)} = {constant}"
    return f"{text} mod {modulus[0]}" if modulus else text


def _read_line(names, line):
    """The row or the rest that is written as this line; () if there is none."""
    words, modulus = without_modulus(line.split(" "))
    terms = read_sum(words[:-2])
    if not terms or words[-2:-1] != ["="] or not is_whole(words[-1]):
        return ()
    factors = tuple([sum([factor for factor, one in terms if one == name]) for name in names])
    parts = (factors, int(words[-1])) + ((modulus,) if modulus else ())
    # Terms in another order, or twice, would give a row, too: only the line that is written for it is read.
    return parts if _write_line(names, parts) == line else ()
