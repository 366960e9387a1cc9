"""Other ways to find what the package returns, on small inputs: by determinants, and by going through boxes."""

import itertools
import math
import re


def box(count, low, high):
    """All tuples of so many integers from low to high."""
    return itertools.product(range(low, high + 1), repeat=count)


def determinant(rows):
    """The determinant by expansion along the first row."""
    if not rows:
        return 1
    total = 0
    for k, entry in enumerate(rows[0]):
        if entry:
            total += (-1) ** k * entry * determinant([row[:k] + row[k + 1:] for row in rows[1:]])
    return total


def minors(table, size):
    """All minors of this size."""
    width = len(table[0]) if table else 0
    for chosen in itertools.combinations(table, size):
        for columns in itertools.combinations(range(width), size):
            yield determinant([tuple(row[k] for k in columns) for row in chosen])


def rank_by_minors(table, prime=None):
    """The size of the greatest minor that is not 0, over the integers or modulo a prime."""
    size = 0
    width = len(table[0]) if table else 0
    while size < min(len(table), width):
        if not any(minor % prime if prime else minor for minor in minors(table, size + 1)):
            break
        size += 1
    return size


def common_divisor(table, size):
    """The greatest common divisor of all minors of this size."""
    return math.gcd(*minors(table, size))


def is_solvable(equations):
    """Whether integers fulfil all (factors, constant): the constants must change neither rank nor minors."""
    plain = [tuple(factors) for factors, _ in equations]
    full = [tuple(factors) + (constant,) for factors, constant in equations]
    size = rank_by_minors(plain)
    return size == rank_by_minors(full) and common_divisor(plain, size) == common_divisor(full, size)


def equations_of(rows, rests):
    """Rows and rests as equations: each rest has one unknown more, a multiple of its modulus."""
    count = len(rests)
    found = [(tuple(factors) + (0,) * count, constant) for factors, constant in rows]
    for k, (factors, constant, modulus) in enumerate(rests):
        found.append((tuple(factors) + tuple(modulus if k == j else 0 for j in range(count)), constant))
    return found


def fulfils(rows, rests, numbers):
    """Whether the numbers fulfil rows and rests, word for word as the document says it."""
    for factors, constant in rows:
        total = 0
        for factor, number in zip(factors, numbers):
            total += factor * number
        if total != constant:
            return False
    for factors, constant, modulus in rests:
        total = 0
        for factor, number in zip(factors, numbers):
            total += factor * number
        if (total - constant) // modulus * modulus != total - constant:
            return False
    return True


def lead(row):
    """The column and the entry of the first entry that is not 0."""
    return next((k, entry) for k, entry in enumerate(row) if entry)


def has_hermite_shape(form):
    """Whether a table is a tuple of tuples of integers in the shape of a Hermite form."""
    if type(form) is not tuple or any(type(row) is not tuple or not any(row) for row in form):
        return False
    if any(type(entry) is not int for row in form for entry in row):
        return False
    leads = [lead(row) for row in form]
    for k, (column, entry) in enumerate(leads):
        if entry < 1 or (k and column <= leads[k - 1][0]):
            return False
        if any(not 0 <= row[column] < entry for row in form[:k]):
            return False
    return True


def belongs(row, form):
    """Whether a row is in the group of a Hermite form."""
    for one in form:
        column, entry = lead(one)
        if row[column] % entry:
            return False
        times = row[column] // entry
        row = tuple(a - times * b for a, b in zip(row, one))
    return not any(row)


def random_table(rng, count, width, bound):
    return tuple(tuple(rng.randint(-bound, bound) for _ in range(width)) for _ in range(count))


def random_form(rng, count, width, bound):
    """A Hermite form, put together lead by lead."""
    columns = sorted(rng.sample(range(width), count))
    leads = [rng.randint(1, bound) for _ in columns]
    form = []
    for k, column in enumerate(columns):
        row = [0] * width
        row[column] = leads[k]
        for later in range(column + 1, width):
            if later in columns:
                row[later] = rng.randrange(leads[columns.index(later)])
            else:
                row[later] = rng.randint(-bound, bound)
        form.append(tuple(row))
    return tuple(form)


def mixed(rng, table, steps):
    """Another table of the same group."""
    rows = [list(row) for row in table]
    for _ in range(steps if rows else 0):
        kind = rng.randrange(5)
        one = rng.randrange(len(rows))
        two = rng.randrange(len(rows))
        if kind <= 1 and one != two:
            times = rng.randint(-2, 2)
            rows[one] = [a + times * b for a, b in zip(rows[one], rows[two])]
        elif kind == 2:
            rows[one] = [-a for a in rows[one]]
        elif kind == 3:
            rows[one], rows[two] = rows[two], rows[one]
        elif len(rows) < 6:
            times = rng.randint(-2, 2)
            rows.insert(rng.randrange(len(rows) + 1), [times * a - b for a, b in zip(rows[one], rows[two])])
    return tuple(tuple(row) for row in rows)


NAME = "[a-z][a-z0-9]{0,7}"
NATURAL = "(?:0|[1-9][0-9]{0,59})"
TERM = f"(?:(?:{NATURAL} )?{NAME}|{NATURAL})"
SUM = f"(?:- )?{TERM}(?: [+-] {TERM})*"
RESERVED = ("check", "input", "keep", "let", "mod", "names", "open", "self", "take")


def line_of_program(line, is_last, given):
    """(kind, name or names, left, right, modulus) of a line of a program, by regular expressions, or None."""
    if is_last:
        match = re.fullmatch(f"keep((?: {NAME}){{1,6}})", line)
        names = match[1].split() if match else []
        good = match and len(set(names)) == len(names) and set(names) <= set(given)
        return ("keep", tuple(names), "", "", 0) if good else None
    match = (re.fullmatch(f"(take) ({NAME})()()()", line) or re.fullmatch(f"(let) ({NAME}) = ({SUM})()()", line)
             or re.fullmatch(f"(check)() ({SUM}) = ({SUM})(?: mod ({NATURAL}))?", line))
    if not match:
        return None
    kind, name, left, right, modulus = match.groups()
    if not set(re.findall(f"\\b{NAME}", f"{left} {right}")) <= set(given):
        return None
    if name and (name in given or name in RESERVED):
        return None
    if modulus and int(modulus) < 2:
        return None
    return kind, name, left, right, int(modulus or 0)


def program_of(text):
    """The lines of a program, or the number of the first line that is not as described."""
    lines = text.split("\n")
    found = []
    given = []
    for at, line in enumerate(lines, start=1):
        told = line_of_program(line, at == len(lines), given)
        if told is None:
            return at
        found.append(told)
        given.append(told[1])
    return found


def value_of(expression, values):
    """The value of a sum, by Python's own arithmetic."""
    product = re.sub("([0-9]+) ([a-z])", r"\1 * \2", expression)
    return eval(re.sub(f"\\b{NAME}", lambda match: f"values[{match[0]!r}]", product), {"values": values})


def walk(lines, inputs):
    """All values of the names, and what is left of each check: (line, difference, modulus)."""
    values = {}
    checks = []
    for at, (kind, name, left, right, modulus) in enumerate(lines, start=1):
        if kind == "take":
            values[name] = inputs[name]
        elif kind == "let":
            values[name] = value_of(left, values)
        elif kind == "check":
            checks.append((at, value_of(left, values) - value_of(right, values), modulus))
    return values, checks


def is_met(difference, modulus):
    return difference % modulus == 0 if modulus else difference == 0


def asked_equations(lines, numbers):
    """What the inputs must fulfil so that a run gives these numbers to the kept names, as (factors, constant)."""
    taken = [name for kind, name, *_ in lines if kind == "take"]
    kept = lines[-1][1]

    def told(inputs):
        values, checks = walk(lines, inputs)
        return [values[name] for name in kept] + [difference for _, difference, _ in checks]

    start = told({name: 0 for name in taken})
    columns = []
    for one in taken:
        moved = told({name: int(name == one) for name in taken})
        columns.append([a - b for a, b in zip(moved, start)])
    wanted = list(numbers) + [0] * (len(start) - len(kept))
    moduli = [0] * len(kept) + [modulus for _, _, modulus in walk(lines, {name: 0 for name in taken})[1]]
    parts = [(tuple(column[k] for column in columns), wanted[k] - start[k], modulus)
             for k, modulus in enumerate(moduli)]
    return equations_of([part[:2] for part in parts if not part[2]], [part for part in parts if part[2]])


def is_asked(lines, numbers):
    """Whether some run gives these numbers to the kept names."""
    return is_solvable(asked_equations(lines, numbers))
