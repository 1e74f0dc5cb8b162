"""The helper of the other files: what may be handed in, and the inverse of a rest.

The messages of the refusals name no number that was handed in: one of
thousands of digits can't be written out.
"""

from powerrows.errors import BadCount, BadPrime, BadRow

PRIMES = (2, 3, 5, 7, 11, 13, 17, 19, 23, 29, 31, 37, 41, 43, 47, 53, 59, 61, 67, 71, 73, 79, 83, 89, 97)
MOST_PLACES = 20


def is_number(thing):
    """Whether it is a whole number."""
    # True and False would pass for 1 and 0.
    return isinstance(thing, int) and not isinstance(thing, bool)


def is_rest(prime, thing):
    """Whether it is a number from 0 to one less than the prime."""
    return is_number(thing) and 0 <= thing < prime


def is_row(prime, thing):
    """Whether it is a list of 1 to 20 rests."""
    if not isinstance(thing, list) or not 1 <= len(thing) <= MOST_PLACES:
        return False
    return all([is_rest(prime, rest) for rest in thing])


def need_prime(prime):
    """Refuse what is no prime from 2 to 97."""
    if not is_number(prime) or prime not in PRIMES:
        raise BadPrime("not a prime from 2 to 97")


def need_row(prime, row):
    """Refuse what is no cut row."""
    if not is_row(prime, row):
        raise BadRow("not a list of 1 to 20 rests by the prime")


def need_prime_and_rows(prime, one, other):
    """Refuse, in this order, what is no prime and what is no cut row."""
    need_prime(prime)
    need_row(prime, one)
    need_row(prime, other)


def need_count(many):
    """Refuse what is no number from 0 on."""
    if not is_number(many) or many < 0:
        raise BadCount("not a whole number from 0 on")


def inverse(prime, rest):
    """The rest that, times this one (not 0), leaves 1."""
    # Raised by one less than the prime, every rest but 0 leaves 1: by two less, its inverse.
    told = 1
    for turn in range(prime - 2):
        told = told * rest % prime
    return told
