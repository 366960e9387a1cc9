"""Dealings of the numbers from 1 on into boxes that hold no solution, and trees, which show that there is none."""

from whateverboxes.pools import Pool, is_solution, unlike_places
from whateverboxes.tables import is_integer


class Bars:
    """The solutions of the numbers from 1 on, found for one number after the other and kept.

    Held numbers are passed as one integer, the sum of 1 << number for each of them.
    """

    def __init__(self, system, unlike):
        self._pool = Pool(system, unlike)
        self._found = [{}]

    def solution(self, number, held):
        """A solution of lower numbers that are held and of this one; None if there is none."""
        while len(self._found) <= number:
            self._found.append(self._next_ones(len(self._found)))
        for others, numbers in self._found[number].items():
            if held & others == others:
                return numbers
        return None

    def _next_ones(self, number):
        """One of the solutions of lower numbers and of this one, for each set of lower numbers in them."""
        found = {}
        for numbers in self._pool.solutions_with(number):
            others = 0
            for one in numbers:
                others = others | (1 << one)
            found[others - (1 << number)] = numbers
        self._pool.hold(number)
        return found


class Cases:
    """The cases of dealing numbers in their order: some have a box of their own, the others can go to any box."""

    def __init__(self, bars, boxes, most, fixed):
        self.bars = bars
        self.boxes = boxes
        self.most = most
        self.fixed = fixed

    def choices(self, number):
        """The boxes to which a number can go, as far as no solutions are looked at."""
        return [self.fixed[number]] if number in self.fixed else list(range(self.boxes))


def dealing(system, boxes, most, *, start=(), unlike=()):
    """The least dealing that begins with the boxes of start; None if there is none."""
    return least_dealing(Cases(Bars(system, unlike), boxes, most, _dealt(start)))


def tree(system, boxes, most, *, start=(), unlike=()):
    """A tree of cases that shows that there is no dealing; None if there is one."""
    cases = Cases(Bars(system, unlike), boxes, most, _dealt(start))
    return _tree_from(cases, (0,) * boxes, 1)


def tree_holds(system, boxes, most, thing, *, start=(), unlike=()):
    """Whether any value is a tree."""
    return _is_tree((system, unlike_places(system, unlike), boxes, most), thing, _dealt(start))


def least_most(system, boxes, limit, *, unlike=()):
    """The least most up to the limit for which there is no dealing; None if there is one for the limit."""
    deepest = _deepest(Cases(Bars(system, unlike), boxes, limit, {}), (0,) * boxes, 1)
    return deepest + 1 if deepest < limit else None


def least_dealing(cases):
    """The least dealing of the cases; None if there is none."""
    return _dealing_from(cases, (0,) * cases.boxes, 1)


def _dealt(start):
    """The numbers from 1 on with their boxes."""
    return {number: box for number, box in enumerate(start, start=1)}


def _after(held, number, box):
    """The held numbers of all boxes after one more is dealt."""
    return held[:box] + (held[box] | (1 << number),) + held[box + 1:]


def _dealing_from(cases, held, number):
    """The boxes of this number and of all greater ones in the least dealing; None if there is none."""
    if number > cases.most:
        return ()
    for box in cases.choices(number):
        if cases.bars.solution(number, held[box]) is None:
            more = _dealing_from(cases, _after(held, number, box), number + 1)
            if more is not None:
                return (box,) + more
    return None


def _tree_from(cases, held, number):
    """A tree for what is held, in which this number is dealt next; None if there is a dealing."""
    if number > cases.most:
        return None
    branches = []
    for box in cases.choices(number):
        numbers = cases.bars.solution(number, held[box])
        branch = ("solved", numbers)
        if numbers is None:
            branch = _tree_from(cases, _after(held, number, box), number + 1)
        if branch is None:
            return None
        branches.append(branch)
    return branches[0] if number in cases.fixed else ("deal", number, tuple(branches))


def _deepest(cases, held, number):
    """The greatest number up to which all can be dealt, if the numbers below this one are held."""
    deepest = number - 1
    if deepest == cases.most:
        return deepest
    for box in cases.choices(number):
        if deepest < cases.most and cases.bars.solution(number, held[box]) is None:
            deepest = max(deepest, _deepest(cases, _after(held, number, box), number + 1))
    return deepest


def _is_tree(task, thing, dealt):
    """Whether any value is a tree for a task, if these numbers are dealt to their boxes.

    A task holds the system, the places of unlike numbers, the number of boxes, and most.
    """
    if not isinstance(thing, tuple):
        return False
    match thing:
        case ("solved", numbers):
            return is_solution(task[0], numbers, task[1]) and _are_together(dealt, numbers)
        case ("deal", number, branches):
            if not _can_be_dealt(task, number, dealt) or not _are_branches(task, branches):
                return False
            for box, branch in enumerate(branches):
                if not _is_tree(task, branch, {**dealt, number: box}):
                    return False
            return True
    return False


def _are_together(dealt, numbers):
    """Whether the numbers are all dealt, and all to one box."""
    boxes = [dealt.get(number, -1) for number in numbers]
    return 0 <= min(boxes) == max(boxes)


def _can_be_dealt(task, thing, dealt):
    """Whether any value is a number of the task that is not dealt."""
    return is_integer(thing) and 1 <= thing <= task[3] and thing not in dealt


def _are_branches(task, thing):
    """Whether any value is a tuple of as many values as the task has boxes."""
    return isinstance(thing, tuple) and len(thing) == task[2]
