"""The errors of the package. Each keeps what it was made of.

What an error keeps can be any value, also one that is too great to be written, so no message contains it.
"""


class BoxError(Exception):
    """The base class of all errors of this package."""


class BadText(BoxError):
    """A line of a text is not as described."""

    def __init__(self, line):
        BoxError.__init__(self, "a line of the text is not as described")
        self.line = line


class Failed(BoxError):
    """A check of a program is not fulfilled."""

    def __init__(self, line):
        BoxError.__init__(self, "a check of the program is not fulfilled")
        self.line = line


class BadMachine(BoxError):
    """A zero ahead of a number would change its box."""

    def __init__(self, state):
        BoxError.__init__(self, "a zero ahead of a number changes its box")
        self.state = state


class NoForm(BoxError):
    """A system has no form, since not all its names are reached."""

    def __init__(self, reached):
        BoxError.__init__(self, "not all names are reached")
        self.reached = reached


class TooFar(BoxError):
    """The numbers that may be asked hold no solution."""

    def __init__(self, most):
        BoxError.__init__(self, "the numbers that may be asked hold no solution")
        self.most = most


class Dealt(BoxError):
    """A number is dealt already."""

    def __init__(self, number):
        BoxError.__init__(self, "the number is dealt already")
        self.number = number


class Solved(BoxError):
    """A box would hold a solution."""

    def __init__(self, numbers):
        BoxError.__init__(self, "the box would hold a solution")
        self.numbers = numbers


class NothingDealt(BoxError):
    """There is no number to take back."""
