"""Dealers, which deal numbers one by one into boxes and never let a box hold a solution."""

from whateverboxes.dealings import Bars, Cases, least_dealing
from whateverboxes.errors import BoxError, Dealt, NothingDealt, Solved
from whateverboxes.pools import Pool


class Dealer:
    """The numbers that are dealt to boxes none of which holds a solution. At first there is none."""

    def __init__(self, system, boxes, *, unlike=()):
        self._bars = Bars(system, unlike)
        self._placed = {}
        self._pools = [Pool(system, unlike) for _ in range(boxes)]

    def deal(self, number, box):
        """Deals a number to a box. Raises Dealt(number) or Solved(numbers)."""
        if number in self._placed:
            raise Dealt(number)
        numbers = self._pools[box].solution_with(number)
        if numbers is not None:
            raise Solved(numbers)
        self._pools[box].hold(number)
        self._placed[number] = box

    def deal_all(self, *pairs):
        """Deals the number of each pair to the box of this pair; if one of them raises an error, none is dealt."""
        before = len(self._placed)
        try:
            for number, box in pairs:
                self.deal(number, box)
        except BoxError:
            while len(self._placed) > before:
                self.take_back()
            raise

    def take_back(self):
        """Takes back the number that was dealt last, and returns it with its box. Raises NothingDealt()."""
        if not self._placed:
            raise NothingDealt()
        number = list(self._placed)[-1]
        box = self._placed[number]
        self._pools[box].drop()
        del self._placed[number]
        return number, box

    def free(self, number):
        """The boxes to which a number could be dealt. Raises Dealt(number)."""
        if number in self._placed:
            raise Dealt(number)
        return tuple([box for box, pool in enumerate(self._pools) if pool.solution_with(number) is None])

    def box(self, number):
        """The box of a number; None if it is not dealt."""
        return self._placed.get(number, None)

    def goes_on(self, most):
        """A dealing that gives each dealt number up to most its box; None if there is none."""
        return least_dealing(Cases(self._bars, len(self._pools), most, self._placed))

    def __contains__(self, number):
        return number in self._placed

    def __len__(self):
        return len(self._placed)

    @property
    def dealt(self):
        """The pairs of numbers and boxes in the order in which they were dealt."""
        return tuple([(number, box) for number, box in self._placed.items()])

    @property
    def stuck(self):
        """The least number below a dealt one that is not dealt and could be dealt to no box; None if there is none."""
        for number in range(1, max(self._placed, default=0)):
            if number not in self._placed and not _any_free(self._pools, number):
                return number
        return None


def _any_free(pools, number):
    """Whether some pool holds no solution with one more number."""
    return any([pool.solution_with(number) is None for pool in pools])
