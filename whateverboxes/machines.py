"""Machines that read the digits of a number, from the units on, and put the number into a box."""

from whateverboxes.bars import Sorter
from whateverboxes.errors import BadMachine


class Machine:
    """A machine with a row of steps and a box for each state. Raises BadMachine(state) if a zero ahead matters."""

    def __init__(self, base, steps, boxes):
        states = _reached_states(steps)
        for state in states:
            if boxes[state] != boxes[steps[state][0]]:
                raise BadMachine(state)
        self.base = base
        self.steps = steps
        self.boxes = boxes
        self.many = 1 + max([boxes[state] for state in states])

    def __call__(self, number):
        state = 0
        while number:
            number, digit = divmod(number, self.base)
            state = self.steps[state][digit]
        return self.boxes[state]

    def __mul__(self, other):
        pairs, steps = _paired_steps(self.steps, other.steps)
        boxes = [self.boxes[one] * other.many + other.boxes[two] for one, two in pairs]
        return Machine(self.base, tuple(steps), tuple(boxes))

    def sorter(self):
        """The sorter that puts each number into the box of the machine."""
        return Sorter(((self.many, self),))

    @staticmethod
    def modulo(base, modulus):
        """The machine by remainders. Its state tells the weight of the next digit and the remainder so far."""
        weights = [1 % modulus]
        while weights[-1] * base % modulus not in weights:
            weights.append(weights[-1] * base % modulus)
        steps = []
        for weight in weights:
            ahead = weights.index(weight * base % modulus) * modulus
            for rest in range(modulus):
                steps.append(tuple([ahead + (rest + digit * weight) % modulus for digit in range(base)]))
        return Machine(base, tuple(steps), tuple(range(modulus)) * len(weights))

    @staticmethod
    def last(base):
        """The machine by last digits. Its state is the last digit, 0 as long as there are zeros alone."""
        steps = [tuple(range(base))] + [(state,) * base for state in range(1, base)]
        return Machine(base, tuple(steps), _digit_boxes(base))

    @staticmethod
    def first(base):
        """The machine by first digits. Its state is the digit of the greatest weight so far that is not 0."""
        steps = [(state,) + tuple(range(1, base)) for state in range(base)]
        return Machine(base, tuple(steps), _digit_boxes(base))

    @staticmethod
    def sums(base, modulus):
        """The machine by the sums of digits. Its state is the remainder of the sum so far."""
        steps = [tuple([(state + digit) % modulus for digit in range(base)]) for state in range(modulus)]
        return Machine(base, tuple(steps), tuple(range(modulus)))


def _digit_boxes(base):
    """The boxes of states that are digits; only for the number 0 a machine stops in the state 0."""
    return (0,) + tuple(range(base - 1))


def _reached_states(steps):
    """The states to which a machine comes from the state 0, ascending."""
    found = [0]
    seen = {0: True}
    at = 0
    while at < len(found):
        for state in steps[found[at]]:
            if state not in seen:
                seen[state] = True
                found.append(state)
        at += 1
    return sorted(found)


def _paired_steps(steps, others):
    """The pairs of states to which two machines come by the same digits, and the steps from pair to pair."""
    pairs = [(0, 0)]
    places = {(0, 0): 0}
    found = []
    while len(found) < len(pairs):
        one, other = pairs[len(found)]
        row = []
        for pair in zip(steps[one], others[other]):
            if pair not in places:
                places[pair] = len(pairs)
                pairs.append(pair)
            row.append(places[pair])
        found.append(tuple(row))
    return pairs, found
