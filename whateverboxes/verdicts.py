"""Verdicts: what shows that a system is sure, or which sorter bars it; and what is sure of several systems."""

from itertools import combinations
from math import gcd, lcm

from whateverboxes.bars import Sorter, clear_prime, is_clear, is_prime
from whateverboxes.errors import NoForm
from whateverboxes.forms import alike, form, form_holds, is_move, reached
from whateverboxes.systems import System
from whateverboxes.tables import are_integers, dot, is_integer, kernel, measures, units

MOST_PRIME = 1000000


def verdict(system, *, unlike=()):
    """The first of the five verdicts that applies to the system with the pairs of unlike names."""
    found = alike(system)
    if not found:
        return "modulo", _least_modulus(system)
    if found[0] >= 1 and not unlike:
        return "alike", found[0]
    for one, other in unlike:
        if _are_tied(system, one, other):
            return "never", one, other
    try:
        return "form", found[0], _unlike_form(system, unlike)
    except NoForm:
        return "digits", found[0], clear_prime(system)


def verdict_holds(system, thing, *, unlike=()):
    """Whether any value is a right verdict about the system with the pairs of unlike names."""
    if not isinstance(thing, tuple):
        return False
    match thing:
        case ("modulo", modulus):
            return _is_right_modulus(system, modulus)
        case ("alike", number):
            return not unlike and _is_alike(system, number) and number >= 1
        case ("never", one, other):
            return (one, other) in unlike and _are_tied(system, one, other)
        case ("form", number, shown):
            return _is_alike(system, number) and form_holds(system, shown) and _are_unlike(system, shown[2], unlike)
        case ("digits", number, prime):
            return _are_right_digits(system, number, prime, unlike)
    return False


def barring(*things):
    """The sorter that bars all systems for which the verdicts hold; none of these is a form or alike."""
    first, *more = [_sorter_of(thing) for thing in things]
    for sorter in more:
        first = first * sorter
    return first


def verdict_of_any(*systems):
    """The first system that is sure, with its index and its verdict; the verdicts of all if none is."""
    verdicts = []
    for index, system in enumerate(systems):
        found = verdict(system)
        if found[0] in ("alike", "form"):
            return "sure", index, found
        verdicts.append(found)
    return "barred", tuple(verdicts)


def beside(*systems):
    """The system whose solutions are solutions of all systems, side by side."""
    joined = System((), ())
    for system in systems:
        names = joined.names
        for name in system.names:
            names = names + (_new_name(name, names),)
        joined = joined & System(names[len(joined.names):], system.rows, system.rests)
    return joined


def keepable(system, *, unlike=()):
    """The greatest tuples of indexes of rows, such that the system with just these rows is sure, ascending."""
    found = [()] if _is_sure(system, (), unlike) else []
    for at in range(len(system.rows)):
        found = [kept for one in found for kept in (one, one + (at,)) if _is_way(system, kept, at + 1, unlike)]
    return tuple(sorted(found))


def modulo_verdict(system):
    """The first of the four verdicts that applies to the system and the sorters by remainders."""
    found = alike(system)
    if not found:
        return "modulo", _least_modulus(system)
    if found[0] >= 1:
        return "alike", found[0]
    ahead = _move_ahead(system)
    if min(ahead) >= 1:
        return "ahead", found[0], ahead
    return "weights", _thin_rows(system.moves(), len(system.names))[0]


def modulo_verdict_holds(system, thing):
    """Whether any value is a right verdict about the system and the sorters by remainders."""
    if not isinstance(thing, tuple):
        return False
    match thing:
        case ("modulo", modulus):
            return _is_right_modulus(system, modulus)
        case ("alike", number):
            return _is_alike(system, number) and number >= 1
        case ("ahead", number, move):
            return _is_alike(system, number) and is_move(system, move) and min(move) >= 1
        case ("weights", row):
            return _are_right_weights(system, row)
    return False


def _sorter_of(thing):
    if thing[0] == "modulo":
        return Sorter.modulo(thing[1])
    if thing[0] == "digits":
        return Sorter.digits(thing[2], after=thing[1])
    return Sorter.modulo(1)


def _least_modulus(system):
    """The least right modulus of a system for which no integer is alike."""
    if system.point() is None:
        return 1
    tests = _remainder_tests(system)
    modulus = 2
    while not _fails_one(tests, modulus):
        modulus += 1
    return modulus


def _is_right_modulus(system, modulus):
    """Whether any value is a modulus by which no integer tuple that fulfils the system has equal remainders."""
    if not is_integer(modulus) or modulus < 1:
        return False
    return system.point() is None or _fails_one(_remainder_tests(system), modulus)


def _remainder_tests(system):
    """Pairs (total, divisor) for a system that some integer tuple fulfils.

    The group of the moves and of (1, ..., 1) holds all that leads from such a tuple to one that is alike; with a
    modulus, the group of these rows and of all multiples of the modulus. The tuple is in this group just if each
    total is divisible by the greatest common divisor of its divisor and the modulus.
    """
    point = system.point()
    width = len(system.names)
    return [(dot(row, point), divisor) for row, divisor in measures(system.moves() + ((1,) * width,), width)]


def _fails_one(tests, modulus):
    return any([total % gcd(divisor, modulus) != 0 for total, divisor in tests])


def _is_alike(system, number):
    """Whether any value is an integer that is alike."""
    return is_integer(number) and system.fulfils((number,) * len(system.names))


def _are_tied(system, one, other):
    """Whether each integer tuple that fulfils the system has the same entry at two names.

    If some integer is alike, this is so just if each direction has the same entry at them.
    """
    point = system.point()
    if point is None:
        return True
    return not any([_differs(system, row, one, other) for row in (point,) + system.moves()])


def _differs(system, row, one, other):
    return row[system.names.index(one)] != row[system.names.index(other)]


def _are_unlike(system, moves, unlike):
    """Whether, for each pair, some move has unlike entries at the two names."""
    return all([any([_differs(system, move, one, other) for move in moves]) for one, other in unlike])


def _unlike_form(system, unlike):
    """A form that has a move with unlike entries for each pair, if no pair is tied."""
    factor, fronts, moves = form(system)
    more = system.moves()
    for one, other in unlike:
        if not _are_unlike(system, moves, ((one, other),)):
            moves = moves + tuple([move for move in more if _differs(system, move, one, other)][:1])
    return factor, fronts, moves


def _are_right_digits(system, number, prime, unlike):
    if not is_integer(prime) or not 2 <= prime < MOST_PRIME or not _is_alike(system, number):
        return False
    if (number >= 1 and not unlike) or len(reached(system)) == len(system.names):
        return False
    return is_prime(prime) and is_clear(system, prime)


def _new_name(name, names):
    """The name, with the least integer from 2 on behind it that makes it new if it is among the names."""
    found = name
    number = 2
    while found in names:
        found = f"{name}{number}"
        number += 1
    return found


def _is_sure(system, kept, unlike):
    """Whether the system with just the rows that have the kept indexes is sure."""
    part = System(system.names, tuple([system.rows[k] for k in kept]), system.rests)
    found = alike(part)
    if not found:
        return False
    if found[0] >= 1 and not unlike:
        return True
    return len(reached(part)) == len(part.names) and not any([_are_tied(part, one, other) for one, other in unlike])


def _is_way(system, kept, at, unlike):
    """Whether indexes kept among the first ones may become a greatest tuple by some of the later ones.

    What is sure stays so with fewer rows. So a row that is left out must be too many at least beside all later ones.
    """
    later = tuple(range(at, len(system.rows)))
    return _is_sure(system, kept, unlike) and not any([
        _is_sure(system, kept + (k,) + later, unlike) for k in range(at) if k not in kept])


def _move_ahead(system):
    """A move without negative entries, of which as many as possible are positive."""
    factor = 1
    for rest in system.rests:
        factor = lcm(factor, rest[2])
    rows = _thin_rows(system.plain_rows(), len(system.names))
    return tuple([factor * sum([row[k] for row in rows]) for k in range(len(system.names))])


def _thin_rows(table, width):
    """The rows without negative entries that vanish on the table, and of which no other one has fewer positive ones.

    Each row without negative entries that vanishes on the table is a sum of multiples of these.
    """
    found = []
    for size in range(1, width + 1):
        for inside in combinations(range(width), size):
            outside = tuple([unit for k, unit in enumerate(units(width)) if k not in inside])
            rows = kernel(table + outside, width)
            if len(rows) == 1 and min(rows[0]) >= 0 and rows[0] not in found:
                found.append(rows[0])
    return found


def _are_right_weights(system, row):
    found = alike(system)
    # If the alike integers have a step, (1, ..., 1) is a direction, on which no weights vanish.
    if not found or found[0] >= 1 or not are_integers(row, len(system.names)):
        return False
    return min(row) >= 0 and any(row) and not any([dot(row, move) for move in system.moves()])
