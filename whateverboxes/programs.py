"""Programs of sums: their texts, their runs, and the system that they ask of the names that they keep."""

from whateverboxes.errors import BadText, Failed
from whateverboxes.systems import System
from whateverboxes.tables import dot, measures, units
from whateverboxes.words import are_names, is_name, read_sum, without_modulus


class Program:
    """A program of sums, made by `Program.read`.

    It has a step (word, name, terms, modulus) for each line but the last one. The terms are those of a sum; for
    a check they are those of the left side less those of the right side. What a line does not have is "", () or 0.
    """

    def __init__(self, text, steps, kept):
        self._text = text
        self._steps = steps
        self.taken = tuple([name for word, name, _, _ in steps if word == "take"])
        self.kept = kept
        self.names = tuple([name for word, name, _, _ in steps if word != "check"])

    def __str__(self):
        return str(self._text)

    @staticmethod
    def read(text):
        """The program of a text. Raises BadText(line) with the first line that is not as described."""
        *lines, last = text.split("\n")
        steps = []
        given = []
        for at, line in enumerate(lines, start=1):
            step = _read_step(line.split(" "), given)
            if not step:
                raise BadText(at)
            steps.append(step)
            given.append(step[1])
        first, *kept = last.split(" ")
        if first != "keep" or not are_names(kept) or not all([name in given for name in kept]):
            raise BadText(len(lines) + 1)
        return Program(text, tuple(steps), tuple(kept))

    def run(self, **inputs):
        """The pairs (name, integer) of a run, in the order of the lines. Raises Failed(line) if a check fails."""
        # An integer alone is that integer times the name "", which is 1.
        values = {"": 1}
        for at, (word, name, terms, modulus) in enumerate(self._steps, start=1):
            total = sum([factor * values[one] for factor, one in terms])
            if word == "take":
                values[name] = inputs[name]
            elif word == "let":
                values[name] = total
            elif (total % modulus if modulus else total) != 0:
                raise Failed(at)
        return tuple([(name, values[name]) for name in self.names])

    def system(self):
        """A system of the kept names that is fulfilled by exactly what some run gives to them."""
        forms, asked = self._inputs_asked()
        point = asked.point()
        if point is None:
            return System(self.kept, (((0,) * len(self.kept), 1),))
        start = [dot(forms[name], (1, *point)) for name in self.kept]
        group = [tuple([dot(forms[name], (0, *move)) for name in self.kept]) for move in asked.moves()]
        return _system_around(self.kept, start, tuple(group))

    def _inputs_asked(self):
        """The factors with which each name is a sum of 1 and of the taken names, and what is asked of these."""
        width = 1 + len(self.taken)
        forms = {"": units(width)[0]}
        rows = []
        rests = []
        for word, name, terms, modulus in self._steps:
            total = tuple([sum([factor * forms[one][k] for factor, one in terms]) for k in range(width)])
            if word == "take":
                forms[name] = units(width)[1 + self.taken.index(name)]
            elif word == "let":
                forms[name] = total
            elif modulus:
                rests.append((total[1:], -total[0], modulus))
            else:
                rows.append((total[1:], -total[0]))
        return forms, System(self.taken, tuple(rows), tuple(rests))


def _system_around(names, start, group):
    """The system that start fulfils, and whose moves are the group of this table."""
    rows = []
    rests = []
    for row, divisor in measures(group, len(names)):
        total = dot(row, start)
        if divisor == 0:
            rows.append((row, total))
        elif divisor > 1:
            rests.append((tuple([factor % divisor for factor in row]), total % divisor, divisor))
    return System(names, tuple(rows), tuple(rests))


def _read_step(words, given):
    """The step of a line that is not the last one; () if it is not as described."""
    word, *parts = words
    if word == "check":
        return _read_check(parts, given)
    if not parts or not is_name(parts[0]) or parts[0] in given:
        return ()
    if word == "take" and len(parts) == 1:
        return word, parts[0], (), 0
    terms = _read_given_sum(parts[2:], given)
    if word == "let" and parts[1:2] == ["="] and terms:
        return word, parts[0], terms, 0
    return ()


def _read_check(parts, given):
    words, modulus = without_modulus(parts)
    if words.count("=") != 1:
        return ()
    at = words.index("=")
    left = _read_given_sum(words[:at], given)
    right = _read_given_sum(words[at + 1:], given)
    if not left or not right:
        return ()
    return "check", "", left + tuple([(-factor, name) for factor, name in right]), modulus


def _read_given_sum(words, given):
    """The terms of a sum of names that are given before; () if it is no such sum."""
    terms = read_sum(words)
    return terms if all([name == "" or name in given for _, name in terms]) else ()
