"""Solutions in one box of a given sorter, and closed sets, which show that a machine has none."""

from whateverboxes.errors import TooFar
from whateverboxes.pools import Pool
from whateverboxes.readings import Reading, first_stand
from whateverboxes.tables import are_integers


def solved(system, machine, *, unlike=()):
    """A solution in one box of the machine whose greatest number is as small as possible; None if there is none."""
    reading = Reading(system, machine, unlike)
    layers = _layers_to_end(reading)
    if not layers:
        return None
    # Each way through all layers is a solution. The digits of the greatest weight are chosen first, so that the
    # greatest number has low ones; what matters for the next digits is which names have the greatest number so far.
    everyone = tuple(range(len(system.names)))
    goals = {stand: [everyone] for stand in layers[-1] if reading.is_end(stand)}
    ways = []
    for layer in layers[-2::-1]:
        ways.append(_least_ways(reading, layer, goals, machine.base))
        goals = {}
        for stand, leaders in ways[-1]:
            goals.setdefault(stand, []).append(leaders)
    return _numbers_on(ways[::-1], machine.base)


def closed(system, machine):
    """A closed set of the system and the machine; None if there is none."""
    reading = Reading(system, machine, ())
    stands = [reading.begin()]
    seen = {stands[0]: True}
    at = 0
    while at < len(stands):
        goals = reading.goals_from(stands[at])
        at += 1
        for stand in goals:
            if stand not in seen:
                if reading.is_end(stand):
                    return None
                seen[stand] = True
                stands.append(stand)
    return tuple(sorted([reading.stand_of(stand) for stand in stands]))


def closed_holds(system, machine, thing):
    """Whether any value is a closed set of the system and the machine."""
    if not isinstance(thing, tuple) or not all([_is_stand(system, machine, stand) for stand in thing]):
        return False
    if first_stand(system) not in thing or any([one >= other for one, other in zip(thing, thing[1:])]):
        return False
    reading = Reading(system, machine, ())
    codes = {reading.code_of(stand): True for stand in thing}
    for code in codes:
        if reading.is_end(code) or not all([after in codes for after in reading.goals_from(code)]):
            return False
    return True


def fit(system, function, most, *, unlike=()):
    """The first solution for whose numbers, asked from 1 on, the function returns equal integers.

    Raises TooFar(most) if the numbers up to most hold none.
    """
    pools = {}
    for number in range(1, most + 1):
        box = function(number)
        if box not in pools:
            pools[box] = Pool(system, unlike)
        found = pools[box].solution_with(number)
        if found is not None:
            return found
        pools[box].hold(number)
    raise TooFar(most)


def _layers_to_end(reading):
    """The stands by the least number of digits that lead to them, up to the first layer with an end; [] if none has.

    A shortest way to an end takes one stand of each of these layers.
    """
    layers = [[reading.begin()]]
    seen = {layers[0][0]: True}
    while layers[-1]:
        if any([reading.is_end(stand) for stand in layers[-1]]):
            return layers
        layer = []
        for before in layers[-1]:
            for stand in reading.goals_from(before):
                if stand not in seen:
                    seen[stand] = True
                    layer.append(stand)
        layers.append(layer)
    return []


def _least_ways(reading, layer, goals, base):
    """The steps from a layer to the goals by which the greatest number gets as low a digit as possible.

    From (stand, leaders) a step leads by some digits to (stand, leaders) behind it, where the leaders are the
    indexes of the names whose digits of greater weight are those of the greatest number.
    """
    least = base
    ways = {}
    for before in layer:
        for digits, stand in reading.steps_from(before):
            for leaders in goals.get(stand, []):
                top = max([digits[k] for k in leaders])
                if top < least:
                    least = top
                    ways = {}
                if top == least:
                    ways[(before, tuple([k for k in leaders if digits[k] == top]))] = (digits, stand, leaders)
    return ways


def _numbers_on(ways, base):
    """The numbers whose digits, the units first, stand on a way."""
    place = list(ways[0])[0]
    weight = 1
    numbers = (0,) * len(ways[0][place][0])
    for steps in ways:
        digits, *behind = steps[place]
        numbers = tuple([number + weight * digit for number, digit in zip(numbers, digits)])
        weight = weight * base
        place = tuple(behind)
    return numbers


def _is_stand(system, machine, thing):
    """Whether any value is a stand of the system and the machine."""
    if not isinstance(thing, tuple) or len(thing) != 3:
        return False
    carries, states, begun = thing
    width = len(system.names)
    if not are_integers(carries, len(system.rows)) or not are_integers(states, width):
        return False
    if not are_integers(begun, width) or not all([entry in (0, 1) for entry in begun]):
        return False
    return min(states) >= 0 and max(states) < len(machine.steps)
