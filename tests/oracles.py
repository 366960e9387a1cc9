"""Other ways to find what the package returns, on small inputs: by determinants, and by going through boxes."""

import fractions
import functools
import itertools
import math
import re

from whateverboxes.bars import Sorter
from whateverboxes.dealers import Dealer
from whateverboxes.errors import BadText, BoxError, Solved
from whateverboxes.machines import Machine
from whateverboxes.programs import Program
from whateverboxes.systems import System

NAMES = ("x", "y", "z", "u", "v", "w")


def box(count, low, high):
    """All tuples of so many integers from low to high."""
    return itertools.product(range(low, high + 1), repeat=count)


def determinant(rows):
    """The determinant by expansion along the first row."""
    if not rows:
        return 1
    total = 0
    for k, entry in enumerate(rows[0]):
        if entry:
            total += (-1) ** k * entry * determinant([row[:k] + row[k + 1:] for row in rows[1:]])
    return total


def minors(table, size):
    """All minors of this size."""
    width = len(table[0]) if table else 0
    for chosen in itertools.combinations(table, size):
        for columns in itertools.combinations(range(width), size):
            yield determinant([tuple(row[k] for k in columns) for row in chosen])


def rank_by_minors(table, prime=None):
    """The size of the greatest minor that is not 0, over the integers or modulo a prime."""
    size = 0
    width = len(table[0]) if table else 0
    while size < min(len(table), width):
        if not any(minor % prime if prime else minor for minor in minors(table, size + 1)):
            break
        size += 1
    return size


def common_divisor(table, size):
    """The greatest common divisor of all minors of this size."""
    return math.gcd(*minors(table, size))


def is_solvable(equations):
    """Whether integers fulfil all (factors, constant): the constants must change neither rank nor minors."""
    plain = [tuple(factors) for factors, _ in equations]
    full = [tuple(factors) + (constant,) for factors, constant in equations]
    size = rank_by_minors(plain)
    return size == rank_by_minors(full) and common_divisor(plain, size) == common_divisor(full, size)


def equations_of(rows, rests):
    """Rows and rests as equations: each rest has one unknown more, a multiple of its modulus."""
    count = len(rests)
    found = [(tuple(factors) + (0,) * count, constant) for factors, constant in rows]
    for k, (factors, constant, modulus) in enumerate(rests):
        found.append((tuple(factors) + tuple(modulus if k == j else 0 for j in range(count)), constant))
    return found


def fulfils(rows, rests, numbers):
    """Whether the numbers fulfil rows and rests, word for word as the document says it."""
    for factors, constant in rows:
        total = 0
        for factor, number in zip(factors, numbers):
            total += factor * number
        if total != constant:
            return False
    for factors, constant, modulus in rests:
        total = 0
        for factor, number in zip(factors, numbers):
            total += factor * number
        if (total - constant) // modulus * modulus != total - constant:
            return False
    return True


def lead(row):
    """The column and the entry of the first entry that is not 0."""
    return next((k, entry) for k, entry in enumerate(row) if entry)


def has_hermite_shape(form):
    """Whether a table is a tuple of tuples of integers in the shape of a Hermite form."""
    if type(form) is not tuple or any(type(row) is not tuple or not any(row) for row in form):
        return False
    if any(type(entry) is not int for row in form for entry in row):
        return False
    leads = [lead(row) for row in form]
    for k, (column, entry) in enumerate(leads):
        if entry < 1 or (k and column <= leads[k - 1][0]):
            return False
        if any(not 0 <= row[column] < entry for row in form[:k]):
            return False
    return True


def belongs(row, form):
    """Whether a row is in the group of a Hermite form."""
    for one in form:
        column, entry = lead(one)
        if row[column] % entry:
            return False
        times = row[column] // entry
        row = tuple(a - times * b for a, b in zip(row, one))
    return not any(row)


def random_table(rng, count, width, bound):
    return tuple(tuple(rng.randint(-bound, bound) for _ in range(width)) for _ in range(count))


def random_form(rng, count, width, bound):
    """A Hermite form, put together lead by lead."""
    columns = sorted(rng.sample(range(width), count))
    leads = [rng.randint(1, bound) for _ in columns]
    form = []
    for k, column in enumerate(columns):
        row = [0] * width
        row[column] = leads[k]
        for later in range(column + 1, width):
            if later in columns:
                row[later] = rng.randrange(leads[columns.index(later)])
            else:
                row[later] = rng.randint(-bound, bound)
        form.append(tuple(row))
    return tuple(form)


def mixed(rng, table, steps):
    """Another table of the same group."""
    rows = [list(row) for row in table]
    for _ in range(steps if rows else 0):
        kind = rng.randrange(5)
        one = rng.randrange(len(rows))
        two = rng.randrange(len(rows))
        if kind <= 1 and one != two:
            times = rng.randint(-2, 2)
            rows[one] = [a + times * b for a, b in zip(rows[one], rows[two])]
        elif kind == 2:
            rows[one] = [-a for a in rows[one]]
        elif kind == 3:
            rows[one], rows[two] = rows[two], rows[one]
        elif len(rows) < 6:
            times = rng.randint(-2, 2)
            rows.insert(rng.randrange(len(rows) + 1), [times * a - b for a, b in zip(rows[one], rows[two])])
    return tuple(tuple(row) for row in rows)


NAME = "[a-z][a-z0-9]{0,7}"
NATURAL = "(?:0|[1-9][0-9]{0,59})"
TERM = f"(?:(?:{NATURAL} )?{NAME}|{NATURAL})"
SUM = f"(?:- )?{TERM}(?: [+-] {TERM})*"
RESERVED = ("check", "input", "keep", "let", "mod", "names", "open", "self", "take")


def line_of_program(line, is_last, given):
    """(kind, name or names, left, right, modulus) of a line of a program, by regular expressions, or None."""
    if is_last:
        match = re.fullmatch(f"keep((?: {NAME}){{1,6}})", line)
        names = match[1].split() if match else []
        good = match and len(set(names)) == len(names) and set(names) <= set(given)
        return ("keep", tuple(names), "", "", 0) if good else None
    match = (re.fullmatch(f"(take) ({NAME})()()()", line) or re.fullmatch(f"(let) ({NAME}) = ({SUM})()()", line)
             or re.fullmatch(f"(check)() ({SUM}) = ({SUM})(?: mod ({NATURAL}))?", line))
    if not match:
        return None
    kind, name, left, right, modulus = match.groups()
    if not set(re.findall(f"\\b{NAME}", f"{left} {right}")) <= set(given):
        return None
    if name and (name in given or name in RESERVED):
        return None
    if modulus and int(modulus) < 2:
        return None
    return kind, name, left, right, int(modulus or 0)


def program_of(text):
    """The lines of a program, or the number of the first line that is not as described."""
    lines = text.split("\n")
    found = []
    given = []
    for at, line in enumerate(lines, start=1):
        told = line_of_program(line, at == len(lines), given)
        if told is None:
            return at
        found.append(told)
        given.append(told[1])
    return found


def value_of(expression, values):
    """The value of a sum, by Python's own arithmetic."""
    product = re.sub("([0-9]+) ([a-z])", r"\1 * \2", expression)
    return eval(re.sub(f"\\b{NAME}", lambda match: f"values[{match[0]!r}]", product), {"values": values})


def walk(lines, inputs):
    """All values of the names, and what is left of each check: (line, difference, modulus)."""
    values = {}
    checks = []
    for at, (kind, name, left, right, modulus) in enumerate(lines, start=1):
        if kind == "take":
            values[name] = inputs[name]
        elif kind == "let":
            values[name] = value_of(left, values)
        elif kind == "check":
            checks.append((at, value_of(left, values) - value_of(right, values), modulus))
    return values, checks


def is_met(difference, modulus):
    return difference % modulus == 0 if modulus else difference == 0


def asked_equations(lines, numbers):
    """What the inputs must fulfil so that a run gives these numbers to the kept names, as (factors, constant)."""
    taken = [name for kind, name, *_ in lines if kind == "take"]
    kept = lines[-1][1]

    def told(inputs):
        values, checks = walk(lines, inputs)
        return [values[name] for name in kept] + [difference for _, difference, _ in checks]

    start = told({name: 0 for name in taken})
    columns = []
    for one in taken:
        moved = told({name: int(name == one) for name in taken})
        columns.append([a - b for a, b in zip(moved, start)])
    wanted = list(numbers) + [0] * (len(start) - len(kept))
    moduli = [0] * len(kept) + [modulus for _, _, modulus in walk(lines, {name: 0 for name in taken})[1]]
    parts = [(tuple(column[k] for column in columns), wanted[k] - start[k], modulus)
             for k, modulus in enumerate(moduli)]
    return equations_of([part[:2] for part in parts if not part[2]], [part for part in parts if part[2]])


def is_asked(lines, numbers):
    """Whether some run gives these numbers to the kept names."""
    return is_solvable(asked_equations(lines, numbers))


def random_row(rng, width, bound, most=6):
    return tuple(rng.randint(-bound, bound) for _ in range(width)), rng.randint(-most, most)


def random_parts(rng, width, rows, rests, bound=4):
    """Rows and rests, some of them made so that a small tuple fulfils them."""
    point = tuple(rng.randint(-2, 2) for _ in range(width))
    keep = rng.randrange(3)
    made = []
    for k in range(rows + rests):
        factors, constant = random_row(rng, width, bound)
        if keep:
            constant = sum(a * b for a, b in zip(factors, point))
        made.append((factors, constant))
    if rows > 1 and rng.randrange(3) == 0:
        times = rng.randint(-2, 2)
        made[1] = tuple(times * a for a in made[0][0]), times * made[0][1] + (rng.randrange(4) == 0)
    moduli = [rng.randint(2, 12) for _ in range(rests)]
    kept = tuple((factors, constant + modulus * rng.randint(-2, 2), modulus)
                 for (factors, constant), modulus in zip(made[rows:], moduli))
    return tuple(made[:rows]), kept


def random_system(rng, width, rows, rests, bound=4):
    return System(NAMES[:width], *random_parts(rng, width, rows, rests, bound))


def likely_system(rng, width, rows, rests, bound=3):
    """A system that often has alike integers, and sets of names whose factors add up to 0."""
    low = rng.choice((-3, -1, 0, 0, 0, 1, 2))
    made = []
    for _ in range(rows):
        factors = [rng.randint(-bound, bound) for _ in range(width)]
        if rng.randrange(3):
            chosen = rng.sample(range(width), rng.randint(1, width))
            factors[chosen[0]] -= sum(factors[k] for k in chosen)
        made.append((tuple(factors), low * sum(factors) + (rng.randrange(8) == 0)))
    kept = []
    for _ in range(rests):
        factors, _ = random_row(rng, width, bound)
        modulus = rng.randint(2, 12)
        kept.append((factors, low * sum(factors) + modulus * rng.randint(-1, 1) + (rng.randrange(8) == 0), modulus))
    return System(NAMES[:width], tuple(made), tuple(kept))


def put_otherwise(rng, system):
    """The rows multiplied, added, exchanged and repeated, the rests moved by their moduli and exchanged."""
    rows = [(factors, constant) for factors, constant in system.rows]
    for k in range(len(rows)):
        times = rng.choice((-7, -1, 1, 2, 30))
        rows[k] = tuple(times * a for a in rows[k][0]), times * rows[k][1]
        for j in range(len(rows)):
            if j != k and rng.randrange(2):
                rows[k] = tuple(a + b for a, b in zip(rows[k][0], rows[j][0])), rows[k][1] + rows[j][1]
    if rows and rng.randrange(2):
        rows.append(rng.choice(rows))
    rests = []
    for factors, constant, modulus in system.rests:
        sign = rng.choice((1, -1))
        rests.append((tuple(sign * a + modulus * rng.randint(-3, 3) for a in factors),
                      sign * constant + modulus * rng.randint(-3, 3), modulus))
    rng.shuffle(rows)
    rng.shuffle(rests)
    return System(system.names, tuple(rows), tuple(rests))


def with_names_exchanged(rng, system):
    """The system with its names in another order."""
    order = rng.sample(range(len(system.names)), len(system.names))

    def turned(lines):
        return tuple((tuple(factors[k] for k in order), *more) for factors, *more in lines)

    return System(tuple(system.names[k] for k in order), turned(system.rows), turned(system.rests))


def moved_by(system, number):
    """The system whose constants are such that all that fulfils it is greater by one integer."""
    rows = tuple((factors, constant + number * sum(factors)) for factors, constant in system.rows)
    rests = tuple((factors, constant + number * sum(factors), modulus) for factors, constant, modulus in system.rests)
    return System(system.names, rows, rests)


def random_pairs(rng, names, most):
    """Pairs of unlike names, perhaps the same one twice or the other way round."""
    if len(names) < 2:
        return ()
    pairs = [tuple(rng.sample(names, 2)) for _ in range(rng.randint(0, most))]
    if pairs and rng.randrange(3) == 0:
        pairs.append(rng.choice((pairs[0], pairs[0][::-1])))
    return tuple(pairs[:6])


def parts_of(system):
    return system.names, system.rows, system.rests


def fraction_rank(rows):
    """The rank, by elimination with fractions."""
    left = [[fractions.Fraction(entry) for entry in row] for row in rows]
    size = 0
    for at in range(len(left[0]) if left else 0):
        pivots = [row for row in left[size:] if row[at]]
        if pivots:
            rest = [row for row in left[size:] if row is not pivots[0]]
            left[size:] = pivots[:1] + [[a - row[at] / pivots[0][at] * b for a, b in zip(row, pivots[0])]
                                        for row in rest]
            size += 1
    return size


def depends(rows, row):
    """Whether a row is a sum of multiples, by fractions, of other rows."""
    return fraction_rank([*rows, row]) == fraction_rank(rows)


def follows(rows, before, new):
    """Whether some direction has 1 at the new indexes and 0 outside of these and of those before."""
    columns = [[factors[k] for factors, _ in rows] for k in before]
    return depends(columns, [sum(factors[k] for k in new) for factors, _ in rows])


def reached_steps(rows, width):
    """All reached sets of indexes, each with the least number of steps to it, going from set to set."""
    steps = {frozenset(): 0}
    level = [frozenset()]
    while level:
        further = []
        for before in level:
            others = [k for k in range(width) if k not in before]
            for size in range(1, len(others) + 1):
                for new in itertools.combinations(others, size):
                    after = before | set(new)
                    if after not in steps and follows(rows, before, new):
                        steps[after] = steps[before] + 1
                        further.append(after)
        level = further
    return steps


def reached_indexes(system):
    return sorted(max(reached_steps(system.rows, len(system.names)), key=len))


def is_alike(system, number):
    return type(number) is int and fulfils(system.rows, system.rests, [number] * len(system.names))


def alike_numbers(system, low, high):
    """All alike integers from low to high, by trying them."""
    return [number for number in range(low, high + 1) if is_alike(system, number)]


def is_integer_tuple(thing, count):
    return type(thing) is tuple and len(thing) == count and all(type(entry) is int for entry in thing)


def is_move(system, thing):
    rows = [(factors, 0) for factors, _ in system.rows]
    rests = [(factors, 0, modulus) for factors, _, modulus in system.rests]
    return is_integer_tuple(thing, len(system.names)) and fulfils(rows, rests, thing)


def is_form(system, thing):
    """Whether a value is a form, word for word as point 11 says it."""
    if type(thing) is not tuple or len(thing) != 3:
        return False
    factor, fronts, moves = thing
    width = len(system.names)
    if type(factor) is not int or factor < 1 or type(moves) is not tuple or len(moves) not in range(1, 13):
        return False
    if not all(is_move(system, move) for move in moves) or not is_integer_tuple(fronts, width):
        return False
    for k, front in enumerate(fronts):
        if front not in range(len(moves)) or moves[front][k] != factor:
            return False
        for earlier in moves[:front]:
            if earlier[k] != 0:
                return False
    return True


def are_always_alike(system, one, other):
    """Whether each integer tuple that fulfils the system has the same entry at two names, by determinants."""
    if not is_solvable(equations_of(system.rows, system.rests)):
        return True
    at, to = system.names.index(one), system.names.index(other)
    apart = tuple((k == at) - (k == to) for k in range(len(system.names)))
    table = tuple(factors for factors, _ in system.rows)
    if rank_by_minors(table + (apart,)) > rank_by_minors(table):
        return False
    # The difference is the same for all that fulfil the rows, so one value of it can be asked for.
    return is_solvable(equations_of(system.rows + ((apart, 0),), system.rests))


def bars_modulus(system, modulus):
    """Whether no integer tuple that fulfils the system has equal remainders, by determinants."""
    width = len(system.names)
    more = []
    for k in range(1, width if modulus > 1 else 1):
        more.append((tuple((j == 0) - (j == k) for j in range(width)), 0, modulus))
    return not is_solvable(equations_of(system.rows, system.rests + tuple(more)))


def splits(count):
    """All pairs of disjoint tuples of indexes."""
    for marks in itertools.product(range(3), repeat=count):
        yield [k for k in range(count) if marks[k] == 1], [k for k in range(count) if marks[k] == 2]


def is_clear(system, prime):
    """Whether a prime is clear, by the greatest minors that are not 0."""
    table = system.plain_rows()
    for apart, together in splits(len(system.names)):
        part = [tuple([row[k] for k in apart] + [sum(row[k] for k in together)]) for row in table]
        if rank_by_minors(part) != rank_by_minors(part, prime):
            return False
    return True


def primes(most):
    return [n for n in range(2, most + 1) if all(n % k for k in range(2, math.isqrt(n) + 1))]


def are_unlike(system, moves, pairs):
    return all(any(move[system.names.index(one)] != move[system.names.index(other)] for move in moves)
               for one, other in pairs)


def is_verdict(system, thing, pairs):
    """Whether a value is a right verdict, word for word as point 16 says it."""
    if type(thing) is not tuple or len(thing) not in (2, 3) or type(thing[0]) is not str:
        return False
    word, *rest = thing
    if (word, len(rest)) == ("modulo", 1):
        return type(rest[0]) is int and rest[0] >= 1 and bars_modulus(system, rest[0])
    if (word, len(rest)) == ("alike", 1):
        return not pairs and is_alike(system, rest[0]) and rest[0] >= 1
    if (word, len(rest)) == ("never", 2):
        return type(rest[0]) is type(rest[1]) is str and tuple(rest) in pairs and are_always_alike(system, *rest)
    if (word, len(rest)) == ("form", 2):
        return is_alike(system, rest[0]) and is_form(system, rest[1]) and are_unlike(system, rest[1][2], pairs)
    if (word, len(rest)) == ("digits", 2):
        if not is_alike(system, rest[0]) or type(rest[1]) is not int or not 2 <= rest[1] < 10 ** 6:
            return False
        if any(rest[1] % k == 0 for k in range(2, math.isqrt(rest[1]) + 1)) or (rest[0] > 0 and not pairs):
            return False
        return len(reached_indexes(system)) < len(system.names) and is_clear(system, rest[1])
    return False


def is_modulo_verdict(system, thing):
    """Whether a value is a right verdict about sorters by remainders, word for word as point 19 says it."""
    if type(thing) is not tuple or not thing or type(thing[0]) is not str:
        return False
    word, *rest = thing
    if word in ("modulo", "alike"):
        return is_verdict(system, thing, ())
    if (word, len(rest)) == ("ahead", 2):
        return is_alike(system, rest[0]) and is_move(system, rest[1]) and all(entry > 0 for entry in rest[1])
    if (word, len(rest)) == ("weights", 1):
        row = rest[0]
        if not is_integer_tuple(row, len(system.names)) or min(row) < 0 or not any(row):
            return False
        # If the alike integers have a step, it divides the product of the moduli.
        many = math.prod(modulus for _, _, modulus in system.rests)
        return bool(alike_numbers(system, -200 - many, 0)) and depends([factors for factors, _ in system.rows], row)
    return False


def is_sure(system, pairs):
    """Whether a system is sure, by Rado's theorem and what points 15 and 20 say of alike integers and of pairs."""
    many = math.prod(modulus for _, _, modulus in system.rests)
    found = alike_numbers(system, -200, 200 + many)
    if not found:
        return False
    if found[-1] >= 1 and not pairs:
        return True
    return len(reached_indexes(system)) == len(system.names) and not any(
        are_always_alike(system, one, other) for one, other in pairs)


def solutions(system, pairs, most):
    """All solutions whose numbers are at most so great."""
    for numbers in box(len(system.names), 1, most):
        values = dict(zip(system.names, numbers))
        if fulfils(system.rows, system.rests, numbers) and all(values[one] != values[other] for one, other in pairs):
            yield numbers


def digits_of(number, base):
    """The digits of a number, the units first."""
    found = []
    while number:
        found.append(number % base)
        number //= base
    return found


def nested(depth, inner, wrap):
    for _ in range(depth):
        inner = wrap(inner)
    return inner


@functools.cache
def odd_values():
    """Values of all kinds: deep and long ones, great integers, and objects of the package."""
    system = System.read("names x y\nx - y = 0\nx = 1 mod 3")
    return (None, True, False, 0, 1, -1, 2, 7, 10 ** 59, -10 ** 60 + 1, "", "x", "modulo", "form", "0", "~" * 20000,
            "a\nb", (), [], {}, (0,), (1, 2), [1, 2], (None,), ((),), {"modulo": 2}, {0: 1}, (0,) * 1000,
            ("modulo", "2"), ["modulo", 2], ("x", "y"), (("x", "y"),), tuple(range(100000)), [[]] * 20000,
            nested(199, 1, lambda inner: (inner,)), nested(199, 1, lambda inner: [inner]),
            nested(199, 1, lambda inner: {"a": inner}), nested(150, (1, 2), lambda inner: ("form", inner)),
            system, Program.read("take x\nkeep x"), Sorter.modulo(3), Sorter.digits(5, after=-2),
            Machine.last(3), Machine.modulo(2, 3) * Machine.first(2), BoxError(), BadText((1, 2)), Dealer(system, 2),
            Solved((1, 1, 2)))


def spoiled(rng, value):
    """The value with some part replaced, left out, exchanged, repeated, or made another kind of value."""
    if type(value) in (tuple, list) and value and rng.randrange(6):
        at = rng.randrange(len(value))
        kind = rng.randrange(12)
        parts = list(value)
        if kind == 0:
            del parts[at]
        elif kind == 1:
            parts.insert(at, parts[at])
        elif kind == 2:
            to = rng.randrange(len(parts))
            parts[at], parts[to] = parts[to], parts[at]
        elif kind == 3:
            parts.append(rng.choice(odd_values()))
        else:
            parts[at] = spoiled(rng, parts[at])
        return type(value)(parts)
    if type(value) is int:
        return rng.choice((value + 1, value - 1, -value, 2 * value, bool(value), str(value), (value,), [value], None,
                           0, 1, value + 10 ** 40, rng.choice(odd_values())))
    if type(value) is str:
        return rng.choice((value + " ", value[:-1], value.upper(), [value], (value,), rng.choice(odd_values())))
    return rng.choice((list(value), {0: value}, (value,), str(value), None)) if type(value) is tuple else None
