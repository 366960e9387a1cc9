"""Readings: the numbers of all names of a system, read by a machine at the same time, digit by digit."""

from whateverboxes.pools import unlike_places
from whateverboxes.tables import dot


class Carries:
    """The carries of stands, each with a number of its own in the order in which they are met.

    Which digits are possible depends on the remainders of the carries by the base alone; so does what these digits
    add to the quotients of the carries, their gains.
    """

    def __init__(self, system, base, digits):
        self._base = base
        self._known = []
        self._numbers = {}
        self._groups = {}
        for k, row in enumerate(digits):
            sums = [dot(factors, row) for factors, _ in system.rows]
            remainders = tuple([-total % base for total in sums])
            gains = tuple([(total + remainder) // base for total, remainder in zip(sums, remainders)])
            self._groups.setdefault(remainders, []).append((k, gains))

    def number_of(self, carries):
        """The number of carries."""
        if carries not in self._numbers:
            self._numbers[carries] = len(self._known)
            self._known.append(carries)
        return self._numbers[carries]

    def at(self, number):
        """The carries that have this number."""
        return self._known[number]

    def remainders(self, number):
        """The remainders of the carries that have this number."""
        return tuple([carry % self._base for carry in self._known[number]])

    def group(self, remainders):
        """The pairs of the index of possible digits and of their gains."""
        return self._groups.get(remainders, [])

    def after(self, number, gains):
        """The number of the carries to which digits with these gains lead."""
        return self.number_of(tuple([carry // self._base + gain for carry, gain in zip(self._known[number], gains)]))


class Marks:
    """What a stand has beside its carries, as one integer: a mark.

    Its lowest bits tell which pairs of names have unlike digits behind them. Above these it has a sign for each
    name, twice the state plus the entry of begun; that of the last name is the lowest one.
    """

    def __init__(self, machine, width, pairs, digits):
        self._boxes = machine.boxes
        self._width = width
        self._radix = 2 * len(machine.steps)
        self._bits = len(pairs)
        self._apart = [_apart_bits(row, pairs) for row in digits]
        self._signs = [[2 * state + (1 if begun or digit else 0) for digit, state in enumerate(row)]
                       for row in machine.steps for begun in (0, 1)]
        self._steps = {}

    def bound(self):
        """An integer that is greater than each mark."""
        power = 1
        for _ in range(self._width):
            power = power * self._radix
        return power << self._bits

    def mark_of(self, states, begun):
        """The mark of states and of begun, if no pair has unlike digits behind it."""
        signs = 0
        for state, entry in zip(states, begun):
            signs = signs * self._radix + 2 * state + entry
        return signs << self._bits

    def told(self, mark):
        """The states and begun of a mark."""
        signs = self._signs_of(mark)
        return tuple([sign // 2 for sign in signs]), tuple([sign % 2 for sign in signs])

    def steps_from(self, mark):
        """The marks to which a mark goes on, in the order of the digits."""
        if mark not in self._steps:
            after = [0]
            for sign in self._signs_of(mark):
                after = [low * self._radix + new for low in after for new in self._signs[sign]]
            apart = mark & ((1 << self._bits) - 1)
            self._steps[mark] = [(one << self._bits) | apart | new for one, new in zip(after, self._apart)]
        return self._steps[mark]

    def is_end(self, mark):
        """Whether all names have begun, their states have equal boxes, and all pairs are apart."""
        states, begun = self.told(mark)
        boxes = [self._boxes[state] for state in states]
        return min(begun) == 1 and min(boxes) == max(boxes) and (mark + 1) % (1 << self._bits) == 0

    def _signs_of(self, mark):
        signs = []
        left = mark >> self._bits
        for _ in range(self._width):
            left, sign = divmod(left, self._radix)
            signs.append(sign)
        return signs[::-1]


class Reading:
    """The stands of a system and a machine, each coded as one integer: the number of its carries, then its mark."""

    def __init__(self, system, machine, unlike):
        width = len(system.names)
        self._rows = _digit_rows(machine.base, width)
        self._carries = Carries(system, machine.base, self._rows)
        self._marks = Marks(machine, width, unlike_places(system, unlike), self._rows)
        self._bound = self._marks.bound()
        self._begin = first_stand(system)
        self._goals = {}

    def begin(self):
        """The code of the first stand."""
        return self.code_of(self._begin)

    def code_of(self, stand):
        """The code of a stand, if no pair has unlike digits behind it."""
        carries, states, begun = stand
        return self._carries.number_of(carries) * self._bound + self._marks.mark_of(states, begun)

    def stand_of(self, code):
        """The stand that has this code."""
        number, mark = divmod(code, self._bound)
        return (self._carries.at(number), *self._marks.told(mark))

    def steps_from(self, code):
        """The pairs of digits and of the code of the stand to which a stand goes on with them."""
        number, mark = divmod(code, self._bound)
        marks = self._marks.steps_from(mark)
        return [(self._rows[k], self._carries.after(number, gains) * self._bound + marks[k])
                for k, gains in self._carries.group(self._carries.remainders(number))]

    def goals_from(self, code):
        """The codes of the stands to which a stand goes on, each of them once."""
        number, mark = divmod(code, self._bound)
        found = []
        for gains, marks in self._marks_by_gains(self._carries.remainders(number), mark).items():
            low = self._carries.after(number, gains) * self._bound
            found = found + [low + after for after in marks]
        return found

    def _marks_by_gains(self, remainders, mark):
        """The marks to which a mark goes on where the carries have these remainders, by the gains of the carries."""
        if (remainders, mark) not in self._goals:
            marks = self._marks.steps_from(mark)
            found = {}
            for k, gains in self._carries.group(remainders):
                if gains not in found:
                    found[gains] = {}
                found[gains][marks[k]] = True
            self._goals[(remainders, mark)] = found
        return self._goals[(remainders, mark)]

    def is_end(self, code):
        """Whether the stand that has this code is an end, and all pairs are apart."""
        number, mark = divmod(code, self._bound)
        return not any(self._carries.at(number)) and self._marks.is_end(mark)


def first_stand(system):
    """The stand ahead of all digits."""
    nothing = (0,) * len(system.names)
    return tuple([-constant for _, constant in system.rows]), nothing, nothing


def _digit_rows(base, width):
    rows = [()]
    for _ in range(width):
        rows = [row + (digit,) for row in rows for digit in range(base)]
    return rows


def _apart_bits(digits, pairs):
    return sum([1 << k for k, (one, other) in enumerate(pairs) if digits[one] != digits[other]])
