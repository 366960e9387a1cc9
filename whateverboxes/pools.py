"""Pools: numbers that lie together, kept such that the solutions that one more number brings are found soon."""

from whateverboxes.tables import are_integers, dot


class Half:
    """Some of the names of a system, and all tuples of held numbers for them, by the totals of their lines.

    A line (factors, constant, modulus) stands for each row and rest of the system; the modulus of a row is 0.
    """

    def __init__(self, lines, size):
        self._lines = lines
        self._size = size
        self._held = {} if size else self.by_totals([()])

    def totals(self, numbers):
        """The constant of each line with the sum of the numbers times its factors added to it."""
        return tuple([_reduced(constant + dot(factors, numbers), modulus)
                      for factors, constant, modulus in self._lines])

    def by_totals(self, rows):
        """The tuples in lists, by their totals."""
        found = {}
        for row in rows:
            found.setdefault(self.totals(row), []).append(row)
        return found

    def rows_with(self, numbers, number):
        """All tuples of the numbers and of one more number in which this one occurs."""
        new = []
        old = [()]
        for k in range(self._size):
            if k:
                old = [row + (one,) for row in old for one in numbers]
            new = [row + (one,) for row in new for one in [number] + numbers] + [row + (number,) for row in old]
        return new

    def held(self, totals):
        """The tuples of held numbers with these totals."""
        return self._held.get(totals, [])

    def hold(self, rows):
        """Takes tuples in."""
        for row in rows:
            self._held.setdefault(self.totals(row), []).append(row)

    def drop(self, rows):
        """Takes out the tuples that were taken in last."""
        for row in rows:
            self._held[self.totals(row)].pop()


class Pool:
    """Numbers that lie together.

    Solutions are put together of two halves. The totals of the left one are what the rows and rests still want,
    those of the right one are what it gives, so two halves fit if their totals are the same.
    """

    def __init__(self, system, unlike):
        middle = (len(system.names) + 1) // 2
        lines = [(factors, constant, 0) for factors, constant in system.rows] + list(system.rests)
        self._left = Half([(tuple([-factor for factor in factors[:middle]]), constant, modulus)
                           for factors, constant, modulus in lines], middle)
        self._right = Half([(factors[middle:], 0, modulus) for factors, _, modulus in lines],
                           len(system.names) - middle)
        self._places = unlike_places(system, unlike)
        self._numbers = []

    def hold(self, number):
        """Takes a number in."""
        self._left.hold(self._left.rows_with(self._numbers, number))
        self._right.hold(self._right.rows_with(self._numbers, number))
        self._numbers.append(number)

    def drop(self):
        """Takes out the number that was taken in last."""
        number = self._numbers.pop()
        self._left.drop(self._left.rows_with(self._numbers, number))
        self._right.drop(self._right.rows_with(self._numbers, number))

    def solutions_with(self, number):
        """All solutions of held numbers and of one more number in which this one occurs."""
        return [one + other for lefts, rights in self._halves_with(number) for one in lefts for other in rights
                if are_apart(one + other, self._places)]

    def solution_with(self, number):
        """The first of these solutions; None if there is none."""
        for lefts, rights in self._halves_with(number):
            for one in lefts:
                for other in rights:
                    if are_apart(one + other, self._places):
                        return one + other
        return None

    def _halves_with(self, number):
        """Pairs of lists of left and of right halves that fit each other; this one number more is in one of both.

        They are returned, not yielded: a property of dealers runs this, and what it runs must not yield.
        """
        fresh = self._right.by_totals(self._right.rows_with(self._numbers, number))
        lefts = [(row, self._left.totals(row)) for row in self._left.rows_with(self._numbers, number)]
        with_left = [([row], rights) for row, totals in lefts
                     for rights in (fresh.get(totals, []), self._right.held(totals))]
        return with_left + [(self._left.held(totals), rights) for totals, rights in fresh.items()]


def is_solution(system, thing, places):
    """Whether any value is a solution with unlike numbers at both indexes of each pair of places."""
    if not are_integers(thing, len(system.names)) or min(thing) < 1:
        return False
    return system.fulfils(thing) and are_apart(thing, places)


def unlike_places(system, unlike):
    """The pairs of the indexes of the names that must have unlike numbers, each of them once."""
    places = [(system.names.index(one), system.names.index(other)) for one, other in unlike]
    return sorted({(min(pair), max(pair)) for pair in places})


def are_apart(numbers, places):
    """Whether the numbers at both indexes of each pair of places are unlike."""
    return all([numbers[one] != numbers[other] for one, other in places])


def _reduced(total, modulus):
    return total % modulus if modulus else total
