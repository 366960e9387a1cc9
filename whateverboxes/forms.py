"""Alike integers, reached names, and forms: tables of free numbers by which every sorter has a solution in one box."""

from itertools import combinations
from math import lcm

from whateverboxes.errors import NoForm
from whateverboxes.systems import System, without_constants
from whateverboxes.tables import are_integers, dot, is_integer, rank

MOST_MOVES = 12


def alike(system):
    """The only integer that is alike, or the least number that is and the step; () if there is none."""
    single = _gathered_system(system, tuple(range(len(system.names))), ())
    point = single.point()
    if point is None:
        return ()
    steps = single.moves()
    if not steps:
        return point
    step = steps[0][0]
    return (point[0] - 1) % step + 1, step


def reached(system):
    """The names of the greatest reached set, in the order of the system."""
    places = [k for layer in _chain(system) for k in layer]
    return tuple([name for k, name in enumerate(system.names) if k in places])


def form(system):
    """A form with as few moves as possible. Raises NoForm(reached) if there is none."""
    layers = _chain(system)
    fronts = tuple([at for k in range(len(system.names)) for at, layer in enumerate(layers) if k in layer])
    if len(fronts) < len(system.names):
        raise NoForm(reached(system))
    moves = [_move_of_layer(system, layers, at) for at in range(len(layers))]
    leads = [move[layer[0]] for layer, move in zip(layers, moves)]
    factor = 1
    for lead in leads:
        factor = lcm(factor, lead)
    return factor, fronts, tuple([_times(factor // lead, move) for lead, move in zip(leads, moves)])


def form_holds(system, thing):
    """Whether any value is a form of the system."""
    if not isinstance(thing, tuple) or len(thing) != 3:
        return False
    factor, fronts, moves = thing
    if not is_integer(factor) or factor < 1 or not are_integers(fronts, len(system.names)):
        return False
    if not isinstance(moves, tuple) or not 1 <= len(moves) <= MOST_MOVES:
        return False
    if not all([is_move(system, move) for move in moves]):
        return False
    return all([_is_front(front, factor, [move[k] for move in moves]) for k, front in enumerate(fronts)])


def form_numbers(form, *numbers):
    """The sum of the moves of a form, each multiplied by its integer."""
    moves = form[2]
    return tuple([dot(column, numbers) for column in zip(*moves)])


def is_move(system, thing):
    """Whether any value is a move of the system."""
    return are_integers(thing, len(system.names)) and without_constants(system).fulfils(thing)


def gathered(row, together, apart):
    """The sum of the entries at some indexes, and behind it the entries at others."""
    return (sum([row[k] for k in together]),) + tuple([row[k] for k in apart])


def _gathered_system(system, together, apart):
    """The system whose first name stands for all names of some indexes, and the next ones for those of others."""
    rows = tuple([(gathered(factors, together, apart), constant) for factors, constant in system.rows])
    rests = tuple([(gathered(factors, together, apart), constant, modulus)
                   for factors, constant, modulus in system.rests])
    return System(system.names[:1 + len(apart)], rows, rests)


def _chain(system):
    """The indexes by which a chain of reached sets grows from the empty one to the greatest one, in few steps.

    No chain to the greatest set has fewer steps. The sets are gone through by the number of steps to them.
    """
    table = system.plain_rows()
    everything = tuple(range(len(system.names)))
    ways = {(): ()}
    queue = [()]
    at = 0
    while at < len(queue) and everything not in ways:
        before = queue[at]
        at += 1
        for layer in _next_layers(table, before, everything):
            after = tuple(sorted(before + layer))
            if after not in ways:
                ways[after] = ways[before] + (layer,)
                queue.append(after)
    return ways[max(queue, key=len)]


def _next_layers(table, before, everything):
    """All layers by which a reached set can grow: the sum of their columns depends on the columns of the set."""
    others = [k for k in everything if k not in before]
    layers = [layer for size in range(len(others), 0, -1) for layer in combinations(others, size)]
    least = _gathered_rank(table, (), before)
    return [layer for layer in layers if _gathered_rank(table, layer, before) == least]


def _gathered_rank(table, together, apart):
    return rank(tuple([gathered(row, together, apart) for row in table]))


def _move_of_layer(system, layers, at):
    """The move that has the least possible integer from 1 on at each index of a layer, and 0 at all later ones."""
    before = [k for layer in layers[:at] for k in layer]
    # In the Hermite form the first row alone has an entry for the layer, and each such entry is a multiple of it.
    lead, *more = _gathered_system(system, layers[at], before).moves()[0]
    entries = {k: entry for k, entry in zip(before, more)}
    for k in layers[at]:
        entries[k] = lead
    return tuple([entries.get(k, 0) for k in range(len(system.names))])


def _times(times, row):
    return tuple([times * entry for entry in row])


def _is_front(front, factor, column):
    """Whether, of the entries of all moves at a name, the one with the index front is the first but for zeros."""
    return 0 <= front < len(column) and column[:front + 1] == [0] * front + [factor]
