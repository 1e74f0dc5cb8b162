"""What several tests use: rows to try, what is none, and slow reckoning by the words of the document."""

import random

PRIMES = [number for number in range(2, 98) if all(number % part for part in range(2, number))]
LENGTHS = [1, 2, 3, 7, 19, 20]


class LikeAll:
    """Equal to whatever it is compared with, and yet no number."""

    def __eq__(self, other):
        return True

    def __hash__(self):
        return 5


NO_NUMBERS = [
    LikeAll(), None, True, False, "", "5", "0", b"", b"5", [], [5], (), (5,), {}, {5: 5}, set(), {5}, frozenset([5]),
    range(5), object(), int, len, ValueError("5"), bytearray(b"5"), Ellipsis, NotImplemented,
]
NO_PRIMES = NO_NUMBERS + [
    0, 1, -1, -2, -7, 4, 6, 8, 9, 25, 49, 87, 91, 93, 95, 96, 98, 99, 100, 101, 103, 10 ** 20, -10 ** 20, 10 ** 5000,
]
NO_COUNTS = NO_NUMBERS + [-1, -2, -97, -10 ** 20, -10 ** 5000]


def within_itself():
    row = [1, 2]
    row.append(row)
    return row


def no_rows(prime):
    """What is no cut row by the prime."""
    no_rests = NO_NUMBERS + [-1, -prime, prime, prime + 1, 10 ** 20, 10 ** 5000]
    wrong = [thing for thing in NO_NUMBERS if not isinstance(thing, list)]
    wrong += [0, 1, prime, 10 ** 20, [], [0] * 21, [1] * 21, [0] * 400, (0, 1), "01", b"01", {0: 0, 1: 1}, {0, 1}]
    wrong += [iter([0, 1]), [[0, 1]], [(0, 1)], within_itself()]
    for rest in no_rests:
        wrong += [[rest], [rest, 0], [0, rest], [1] * 19 + [rest], [1] * 9 + [rest] + [0] * 9]
    return wrong


def rows(prime, length, first=None, second=None, many=3):
    """Rows of this length, always the same ones, with place 0 and place 1 among those given."""
    source = random.Random(f"{prime} {length} {first} {second}")
    told = [[prime - 1] * length, [0] * length, [1] * length]
    told += [[source.randrange(prime) for place in range(length)] for turn in range(many)]
    for row in told:
        if first is not None:
            row[0] = source.choice(first)
        if second is not None and length > 1:
            row[1] = source.choice(second)
    return told


def slow_times(prime, one, other):
    many = min(len(one), len(other))
    told = [0] * many
    for first in range(many):
        for second in range(many - first):
            told[first + second] += one[first] * other[second]
    return [number % prime for number in told]


def unit(length):
    """The row 1, 0, 0, .."""
    return [1] + [0] * (length - 1)


def sign(length):
    """The row 0, 1, 0, 0, .."""
    return [0, 1] + [0] * (length - 2)


def slow_raised(prime, row, many):
    told = unit(len(row))
    for turn in range(many):
        told = slow_times(prime, told, row)
    return told


def raised_by_bits(prime, row, many):
    """As slow_raised, for counts beyond any loop, by nothing but multiplying."""
    told = unit(len(row))
    for bit in f"{many:b}":
        told = slow_times(prime, told, told)
        if bit == "1":
            told = slow_times(prime, told, row)
    return told


def slow_put_in(prime, outer, inner):
    many = min(len(outer), len(inner))
    told = [0] * many
    for place in range(many):
        power = slow_raised(prime, inner[:many], place)
        told = [(have + outer[place] * rest) % prime for have, rest in zip(told, power)]
    return told


def refusal(call, *handed):
    """The class of what the call raises, or None."""
    try:
        call(*handed)
    except Exception as error:
        return type(error)
    return None
