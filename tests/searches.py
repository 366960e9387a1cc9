"""Plain searches for solutions in boxes, for stands, dealings and trees, word for word as the document says them."""

import itertools

from tests.oracles import fulfils, is_integer_tuple, solutions
from whateverboxes.machines import Machine


def are_unlike(system, pairs, numbers):
    """Whether the two names of each pair have unlike numbers."""
    values = dict(zip(system.names, numbers))
    return all(values[one] != values[other] for one, other in pairs)


def is_solution(system, pairs, thing):
    """Whether a value is a solution."""
    return (is_integer_tuple(thing, len(system.names)) and all(number >= 1 for number in thing)
            and fulfils(system.rows, system.rests, thing) and are_unlike(system, pairs, thing))


def all_solutions(system, pairs, most):
    """All solutions up to a number; where a row allows it, the last name is found by this row."""
    rows = [row for row in system.rows if row[0][-1]]
    if not rows:
        return list(solutions(system, pairs, most))
    factors, constant = rows[0]
    found = []
    for numbers in itertools.product(range(1, most + 1), repeat=len(system.names) - 1):
        rest = constant - sum(a * b for a, b in zip(factors, numbers))
        if rest % factors[-1] == 0 and 1 <= rest // factors[-1] <= most:
            numbers += (rest // factors[-1],)
            if is_solution(system, pairs, numbers):
                found.append(numbers)
    return found


def least_greatest(system, pairs, function, most):
    """The least greatest number of a solution in one box up to a number; None if there is none."""
    boxes = [None] + [function(number) for number in range(1, most + 1)]
    return min((max(numbers) for numbers in all_solutions(system, pairs, most)
                if len({boxes[number] for number in numbers}) == 1), default=None)


def first_stand(system):
    return (tuple(-constant for _, constant in system.rows), (0,) * len(system.names), (0,) * len(system.names))


def next_stands(system, machine, stand):
    """All pairs of digits and the stand to which a stand goes on with them."""
    carries, states, begun = stand
    found = []
    for digits in itertools.product(range(machine.base), repeat=len(system.names)):
        totals = [carry + sum(a * b for a, b in zip(factors, digits))
                  for carry, (factors, _) in zip(carries, system.rows)]
        if all(total % machine.base == 0 for total in totals):
            found.append((digits, (tuple(total // machine.base for total in totals),
                                   tuple(machine.steps[state][digit] for state, digit in zip(states, digits)),
                                   tuple(1 if digit else entry for entry, digit in zip(begun, digits)))))
    return found


def is_end(machine, stand):
    carries, states, begun = stand
    return set(carries) <= {0} and set(begun) == {1} and len({machine.boxes[state] for state in states}) == 1


def closure(system, machine, stands):
    """All stands to which some stands lead, with themselves."""
    found = list(stands)
    seen = set(found)
    for stand in found:
        for _, after in next_stands(system, machine, stand):
            if after not in seen:
                seen.add(after)
                found.append(after)
    return found


def is_stand(system, machine, thing):
    if type(thing) is not tuple or len(thing) != 3 or not is_integer_tuple(thing[0], len(system.rows)):
        return False
    if not is_integer_tuple(thing[1], len(system.names)) or not is_integer_tuple(thing[2], len(system.names)):
        return False
    return all(state in range(len(machine.steps)) for state in thing[1]) and set(thing[2]) <= {0, 1}


def is_closed_set(system, machine, thing):
    """Whether a value is a closed set."""
    if type(thing) is not tuple or not all(is_stand(system, machine, stand) for stand in thing):
        return False
    stands = set(thing)
    if list(thing) != sorted(stands) or first_stand(system) not in stands:
        return False
    if any(is_end(machine, stand) for stand in thing):
        return False
    return all(after in stands for stand in thing for _, after in next_stands(system, machine, stand))


def has_end(system, machine, pairs):
    """Whether the machine has a solution in one box, by all stands together with the pairs that are apart."""
    places = [(system.names.index(one), system.names.index(other)) for one, other in pairs]
    found = [(first_stand(system), (False,) * len(places))]
    seen = set(found)
    for stand, apart in found:
        if is_end(machine, stand) and all(apart):
            return True
        for digits, after in next_stands(system, machine, stand):
            new = after, tuple(was or digits[one] != digits[other] for was, (one, other) in zip(apart, places))
            if new not in seen:
                seen.add(new)
                found.append(new)
    return False


def size_together(system, machine, states, pairs=()):
    """The product by which point 2 limits a system and a machine together."""
    product = (machine.base * states) ** len(system.names) * 2 ** len(pairs)
    for factors, constant in system.rows:
        product *= 2 + abs(constant) + sum(abs(factor) for factor in factors)
    return product


def random_kind(rng, base):
    """A machine of one of the kinds of point 21, and its number of states as point 2 counts it."""
    kind = rng.randrange(5)
    if kind == 0:
        modulus = rng.randint(1, 6)
        return Machine.modulo(base, modulus), modulus * len({base ** k % modulus for k in range(20)})
    if kind == 1:
        return Machine.last(base), base
    if kind == 2:
        return Machine.first(base), base
    if kind == 3:
        modulus = rng.randint(1, 6)
        return Machine.sums(base, modulus), modulus
    (one, many), (two, more) = random_kind(rng, base), random_kind(rng, base)
    return one * two, many * more


def holds_solution(sets, inside):
    """Whether some set of numbers lies inside."""
    return any(numbers <= inside for numbers in sets)


def all_dealings(system, boxes, most, start=(), pairs=()):
    """All dealings, in their order, by trying all boxes for one number after the other."""
    sets = {frozenset(numbers) for numbers in all_solutions(system, pairs, most)}
    found = [()]
    for number in range(1, most + 1):
        now = [one for one in sets if max(one) == number]
        allowed = [start[number - 1]] if number <= len(start) else range(boxes)
        found = [old + (box,) for old in found for box in allowed
                 if not holds_solution(now, {number} | {k + 1 for k, one in enumerate(old) if one == box})]
    return found


def is_dealing(system, boxes, most, thing, start=(), pairs=()):
    """Whether a value is a dealing that begins with start."""
    if not is_integer_tuple(thing, most) or not all(0 <= box < boxes for box in thing) or thing[:len(start)] != start:
        return False
    return not any(len({thing[number - 1] for number in numbers}) == 1
                   for numbers in all_solutions(system, pairs, most))


def is_tree(system, boxes, most, thing, dealt, pairs=()):
    """Whether a value is a tree, if the numbers of a dict are dealt to their boxes."""
    if type(thing) is not tuple or not thing or type(thing[0]) is not str:
        return False
    if thing[0] == "solved" and len(thing) == 2:
        return is_solution(system, pairs, thing[1]) and set(thing[1]) <= set(dealt) and len(
            {dealt[number] for number in thing[1]}) == 1
    if thing[0] == "deal" and len(thing) == 3:
        _, number, branches = thing
        if type(number) is not int or not 1 <= number <= most or number in dealt or type(branches) is not tuple:
            return False
        return len(branches) == boxes and all(is_tree(system, boxes, most, branch, {**dealt, number: box}, pairs)
                                              for box, branch in enumerate(branches))
    return False


def dealt_by(start):
    return {k + 1: box for k, box in enumerate(start)}


def random_tree(rng, system, boxes, numbers, dealt, pairs=()):
    """Some tree that deals some of these numbers in any order; None if there is none. Leaves may come late."""
    for box in range(boxes):
        inside = [number for number in dealt if dealt[number] == box]
        rng.shuffle(inside)
        for one in itertools.product(inside, repeat=len(system.names)) if rng.randrange(6) or not numbers else ():
            if is_solution(system, pairs, one):
                return "solved", one
    left = [number for number in numbers if number not in dealt]
    if not left:
        return None
    number = rng.choice(left)
    branches = []
    for box in range(boxes):
        branches.append(random_tree(rng, system, boxes, numbers, {**dealt, number: box}, pairs))
        if branches[-1] is None:
            return None
    return "deal", number, tuple(branches)
