"""Cut rows put together, multiplied and parted."""

from powerrows.errors import NoPart
from powerrows.rests import inverse, need_prime_and_rows


def plus(prime, one, other):
    """The two rows put together, as far as the shorter one goes."""
    need_prime_and_rows(prime, one, other)
    return [(left + right) % prime for left, right in zip(one, other)]


def times(prime, one, other):
    """The two rows multiplied, as far as the shorter one goes."""
    need_prime_and_rows(prime, one, other)
    return product(prime, one, other)


def parted(prime, one, other):
    """The row that, multiplied by the other, comes to the one."""
    need_prime_and_rows(prime, one, other)
    if other[0] == 0:
        raise NoPart("place 0 of the row to part by is 0")
    return quotient(prime, one, other)


def product(prime, one, other):
    """The two rows multiplied, without a look at whether they are rows."""
    many = min(len(one), len(other))
    return [product_place(one, other, place) % prime for place in range(many)]


def product_place(one, other, place):
    """The sum, over all two places that come to this one together, of their rests multiplied."""
    return sum([one[first] * other[place - first] for first in range(place + 1)])


def quotient(prime, one, other):
    """The one parted by the other, without a look at whether that can be."""
    turned = inverse(prime, other[0])
    part = []
    for place in range(min(len(one), len(other))):
        known = sum([part[first] * other[place - first] for first in range(place)])
        part.append((one[place] - known) * turned % prime)
    return part


def first_places(row, many):
    """So many places of a row that is 0 behind the end of the list."""
    return (row + [0] * many)[:many]


def whole_product(prime, one, other):
    """The two rows, 0 behind their ends, multiplied, as far as there may be a rest but 0."""
    many = len(one) + len(other)
    return product(prime, first_places(one, many), first_places(other, many))
