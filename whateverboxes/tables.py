"""Tables of integers: ranks, and Hermite forms of the groups that their rows generate."""


def rank(table):
    """The rank over the fractions."""
    return len(hermite(table))


def rank_modulo(table, prime):
    """The rank over the integers modulo a prime."""
    rows = [tuple([entry % prime for entry in row]) for row in table]
    found = 0
    for column in range(_width(table)):
        leads = [row for row in rows if row[column]]
        if leads:
            found += 1
            rows = [_cleared(row, leads[0], column, prime) for row in rows]
    return found


def hermite(table):
    """The Hermite form of the group that the rows generate."""
    width = _width(table)
    rows = list(table)
    done = []
    for column in range(width):
        lead, rows = _gathered(rows, column, width)
        if lead[column]:
            done = [_less(row, lead, row[column] // lead[column]) for row in done] + [lead]
    return tuple(done)


def kernel(table, width):
    """The Hermite form of the group of all rows of this width that vanish on each row of the table."""
    count = len(table)
    marked = [tuple([one[k] for one in table]) + unit for k, unit in enumerate(units(width))]
    return tuple([row[count:] for row in hermite(tuple(marked)) if not any(row[:count])])


def measures(table, width):
    """Pairs (row, divisor), as many as the width, that tell what belongs to the group of the table.

    A row of this width is in the group if, for each pair, its dot product with the pair's row is divisible
    by the divisor; where the divisor is 0, this product must be 0. The rows of all pairs generate all rows
    of integers.
    """
    group = hermite(table)
    rows = units(width)
    # This ends: each turn makes the first corner a smaller divisor of itself, or leaves it as it is, and
    # then its row and its column are clear for good; the same holds for each corner behind it.
    while not _is_diagonal(group):
        count = len(group)
        turned = hermite(tuple([tuple([one[k] for one in group]) + row for k, row in enumerate(rows)]))
        rows = [row[count:] for row in turned]
        group = hermite(tuple([tuple([row[k] for row in turned]) for k in range(count)]))
    divisors = [one[k] for k, one in enumerate(group)] + [0] * (width - len(group))
    return tuple([(row, divisor) for row, divisor in zip(rows, divisors)])


def dot(row, other):
    """The sum of the products of the entries of two rows."""
    return sum([one * two for one, two in zip(row, other)])


def units(width):
    """The rows of this width that have one 1 and are 0 elsewhere, in the order of the columns."""
    return [(0,) * k + (1,) + (0,) * (width - k - 1) for k in range(width)]


def is_integer(value):
    """Whether any value is an integer; a bool is none."""
    return isinstance(value, int) and not isinstance(value, bool)


def are_integers(value, count):
    """Whether any value is a tuple of so many integers."""
    return isinstance(value, tuple) and len(value) == count and all([is_integer(entry) for entry in value])


def _width(table):
    return len(table[0]) if table else 0


def _less(row, other, times):
    return tuple([one - times * two for one, two in zip(row, other)])


def _cleared(row, lead, column, prime):
    """The row with 0 in the column; before, it is multiplied by the lead, which the prime does not divide."""
    return tuple([(one * lead[column] - two * row[column]) % prime for one, two in zip(row, lead)])


def _gathered(rows, column, width):
    """A lead, not below 0 in the column, and rows that are 0 there; together they generate the same group."""
    lead = (0,) * width
    rest = []
    for row in rows:
        low = row
        while low[column]:
            lead, low = low, _less(lead, low, lead[column] // low[column])
        rest.append(low)
    if lead[column] < 0:
        lead = tuple([-entry for entry in lead])
    return lead, [row for row in rest if any(row)]


def _is_diagonal(group):
    return not any([any(row[:k] + row[k + 1:]) for k, row in enumerate(group)])
