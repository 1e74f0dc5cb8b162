"""Cut rows put in one another and turned inside out."""

from powerrows.errors import NoInside
from powerrows.rests import inverse, need_prime, need_prime_and_rows, need_row
from powerrows.rows import product


def put_in(prime, outer, inner):
    """The inner row put in the outer one, as far as the shorter one goes."""
    need_prime_and_rows(prime, outer, inner)
    if inner[0] != 0:
        raise NoInside("place 0 of the inner row is not 0")
    many = min(len(outer), len(inner))
    told = [0] * many
    # From the last place down, so that no power of the inner row is needed.
    for place in reversed(range(many)):
        told = product(prime, told, inner)
        told[0] = (told[0] + outer[place]) % prime
    return told


def turned_out(prime, row):
    """The row that, put in this one, comes to 0, 1, 0, 0 and so on."""
    need_prime(prime)
    need_row(prime, row)
    if len(row) < 2 or row[0] != 0 or row[1] == 0:
        raise NoInside("the row does not begin with 0 and a rest but 0")
    return solved(prime, row)


def solved(prime, row):
    """The row in which this one, put in, comes to 0, 1, 0, 0 and so on."""
    # The row turned inside out does so either way round. This way round each
    # place follows from those ahead of it, as the row multiplied by itself so
    # often has only 0 ahead of the place of that number.
    missing = [0, 1] + [0] * (len(row) - 2)
    power = row
    turned = [0]
    for place in range(1, len(row)):
        share = missing[place] * inverse(prime, power[place]) % prime
        missing = [(lack - share * rest) % prime for lack, rest in zip(missing, power)]
        power = product(prime, power, row)
        turned.append(share)
    return turned
