"""Last digits, clear primes, and sorters, which put each number into one of finitely many boxes."""

from whateverboxes.forms import gathered
from whateverboxes.tables import hermite


class Sorter:
    """A sorter, made of parts (boxes, function); the box of a number is made of those of all parts, from the left."""

    def __init__(self, parts):
        self._parts = parts
        boxes = 1
        for many, _ in parts:
            boxes = boxes * many
        self.boxes = boxes

    def __call__(self, number):
        box = 0
        for many, function in self._parts:
            box = box * many + function(number)
        return box

    def __mul__(self, other):
        return Sorter(self._parts + other._parts)

    @staticmethod
    def modulo(modulus):
        """The sorter by remainders."""
        return Sorter(((modulus, lambda number: number % modulus),))

    @staticmethod
    def digits(prime, *, after=0):
        """The sorter by the last digit of what exceeds a bound; each number up to the bound has a box of its own."""
        own = max(after, 0)
        return Sorter(((own + prime - 1, lambda number: _digit_box(number, prime, after, own)),))


def last_digit(number, base):
    """The last digit that is not 0 of a number to a base."""
    while number % base == 0:
        number = number // base
    return number % base


def is_clear(system, prime):
    """Whether a prime is clear for the system."""
    return _divides_none(prime, _divisors(system))


def clear_prime(system):
    """The least clear prime."""
    divisors = _divisors(system)
    prime = 2
    while not _divides_none(prime, divisors) or not is_prime(prime):
        prime += 1
    return prime


def is_prime(number):
    """Whether a number is a prime."""
    divisor = 2
    while divisor * divisor <= number:
        if number % divisor == 0:
            return False
        divisor += 1
    return number > 1


def _digit_box(number, prime, after, own):
    if number <= after:
        return number - 1
    return own + last_digit(number - after, prime) - 1


def _divides_none(prime, divisors):
    return all([divisor % prime != 0 for divisor in divisors])


def _divisors(system):
    """The integers of which a prime divides none just if it is clear."""
    table = system.plain_rows()
    splits = [((), ())]
    for k in range(len(system.names)):
        splits = [split for one, two in splits for split in ((one, two), (one + (k,), two), (one, two + (k,)))]
    return sorted({_minor_divisor([gathered(row, one, two) for row in table]) for one, two in splits})


def _minor_divisor(rows):
    """The greatest common divisor of all minors of the size of the rank; modulo its primes the rank is less."""
    # A Hermite form has the same minors up to their signs and zeros, and as many rows as the rank; the one of its
    # columns is square, so its only minor of this size is the product of the leads.
    short = hermite(rows)
    square = hermite([tuple([row[k] for row in short]) for k in range(len(short[0]) if short else 0)])
    divisor = 1
    for k, lead in enumerate(square):
        divisor = divisor * lead[k]
    return divisor
