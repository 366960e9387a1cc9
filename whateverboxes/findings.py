"""Findings: tuples that say something about systems, and what they say can be looked up."""

from whateverboxes.dealings import tree_holds
from whateverboxes.errors import BadMachine, BadText
from whateverboxes.fits import closed_holds
from whateverboxes.machines import Machine
from whateverboxes.pools import is_solution
from whateverboxes.programs import Program
from whateverboxes.systems import System
from whateverboxes.tables import are_integers, is_integer
from whateverboxes.verdicts import modulo_verdict_holds, verdict_holds


def finding_holds(thing):
    """Whether any value is a finding, and what it says is so."""
    if not isinstance(thing, tuple):
        return False
    match thing:
        case ("verdict", text, pairs, shown):
            system = _system_of(text)
            return _are_pairs(system, pairs) and verdict_holds(system, shown, unlike=pairs)
        case ("modulo", text, shown):
            system = _system_of(text)
            return system is not None and modulo_verdict_holds(system, shown)
        case ("brings", text, other):
            return _brings(_system_of(text), _system_of(other))
        case ("asks", program, text):
            return _asks(_program_of(program), _system_of(text))
        case ("solved", text, parts, numbers):
            return _solves(_system_of(text), _machine_of(parts), numbers)
        case ("closed", text, parts, stands):
            return _closes(_system_of(text), _machine_of(parts), stands)
        case ("tree", text, pairs, boxes, most, shown):
            system = _system_of(text)
            if not _are_pairs(system, pairs) or not _is_number(boxes) or not _is_number(most):
                return False
            return tree_holds(system, boxes, most, shown, unlike=pairs)
    return False


def _system_of(text):
    """The system whose text a value is; None if there is none."""
    if not isinstance(text, str):
        return None
    try:
        return System.read(text)
    except BadText:
        return None


def _program_of(text):
    """The program whose text a value is; None if there is none."""
    if not isinstance(text, str):
        return None
    try:
        return Program.read(text)
    except BadText:
        return None


def _machine_of(parts):
    """The machine whose base, steps and boxes a value holds; None if there is none."""
    if not isinstance(parts, tuple) or len(parts) != 3:
        return None
    base, steps, boxes = parts
    if not is_integer(base) or not 2 <= base <= 10 or not isinstance(steps, tuple) or not steps:
        return None
    if not all([_is_row_of_states(row, base, len(steps)) for row in steps]):
        return None
    if not are_integers(boxes, len(steps)) or min(boxes) < 0:
        return None
    try:
        return Machine(base, steps, boxes)
    except BadMachine:
        return None


def _is_row_of_states(row, base, count):
    return are_integers(row, base) and min(row) >= 0 and max(row) < count


def _is_number(thing):
    return is_integer(thing) and thing >= 1


def _are_pairs(system, thing):
    """Whether there is a system, and any value is a tuple of pairs of unlike names of it."""
    if system is None or not isinstance(thing, tuple):
        return False
    return all([_is_pair(system.names, pair) for pair in thing])


def _is_pair(names, thing):
    if not isinstance(thing, tuple) or len(thing) != 2:
        return False
    one, other = thing
    return one in names and other in names and one != other


def _brings(system, other):
    return system is not None and other is not None and system.brings(other)


def _asks(program, system):
    """Whether the names of the system are the kept ones, in their order, and it is what the program asks."""
    return program is not None and system is not None and system.is_same(program.system())


def _solves(system, machine, numbers):
    """Whether the numbers are a solution in one box of the machine."""
    if system is None or machine is None or not is_solution(system, numbers, ()):
        return False
    boxes = [machine(number) for number in numbers]
    return min(boxes) == max(boxes)


def _closes(system, machine, stands):
    """Whether the system has no rests, and the stands are a closed set."""
    if system is None or machine is None or system.rests:
        return False
    return closed_holds(system, machine, stands)
