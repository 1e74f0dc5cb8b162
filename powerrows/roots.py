"""Cut rows raised and rooted."""

from powerrows.errors import NoRoot
from powerrows.rests import inverse, need_count, need_prime, need_row
from powerrows.rows import product


def raised(prime, row, many):
    """The row multiplied by itself so many times in all."""
    need_prime(prime)
    need_row(prime, row)
    need_count(many)
    left = lesser_count(prime, row, many)
    told = [1] + [0] * (len(row) - 1)
    square = row
    while left > 0:
        if left % 2 == 1:
            told = product(prime, told, square)
        square = product(prime, square, square)
        left = left // 2
    return told


def lesser_count(prime, row, many):
    """A small count by which the row, raised, comes to the same as by this one."""
    # A count may have any number of digits. A row that begins with 0 is 0 at
    # all its places once it is raised as often as it has places.
    if row[0] == 0:
        return min(many, len(row))
    # Raised by a power of the prime, a row keeps its place 0 and moves its
    # place n to n times that power: beyond the end, if that is long enough.
    # Place 0 itself comes to 1 by one less than the prime.
    power = 1
    while power < len(row):
        power = power * prime
    return many % (power * (prime - 1))


def root(prime, row):
    """The row that, multiplied by itself, comes to this one, with the lesser place 0."""
    need_prime(prime)
    need_row(prime, row)
    if prime == 2:
        raise NoRoot("there are no roots by the prime 2")
    first = lesser_root(prime, row[0])
    if first == 0:
        raise NoRoot("place 0 is not a rest but 0 multiplied by itself")
    half = inverse(prime, 2 * first)
    told = [first]
    for place in range(1, len(row)):
        known = sum([told[at] * told[place - at] for at in range(1, place)])
        told.append((row[place] - known) * half % prime)
    return told


def lesser_root(prime, rest):
    """The lesser rest but 0 that, multiplied by itself, comes to this one; 0 where there is none."""
    # Of two such rests, which come to the prime together, one is below its half.
    for least in range(1, prime // 2 + 1):
        if least * least % prime == rest:
            return least
    return 0
