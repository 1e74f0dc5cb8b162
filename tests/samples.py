"""What several tests use: rows to try, what is none, and slow reckoning by the words of the document."""

import random

PRIMES = [number for number in range(2, 98) if all(number % part for part in range(2, number))]
LENGTHS = [1, 2, 3, 7, 19, 20]


class LikeAll:
    """Equal to whatever it is compared with, and yet no number."""

    def __eq__(self, other):
        return True

    def __hash__(self):
        return 5


NO_NUMBERS = [
    LikeAll(), None, True, False, "", "5", "0", b"", b"5", [], [5], (), (5,), {}, {5: 5}, set(), {5}, frozenset([5]),
    range(5), object(), int, len, ValueError("5"), bytearray(b"5"), Ellipsis, NotImplemented,
]
NO_PRIMES = NO_NUMBERS + [
    0, 1, -1, -2, -7, 4, 6, 8, 9, 25, 49, 87, 91, 93, 95, 96, 98, 99, 100, 101, 103, 10 ** 20, -10 ** 20, 10 ** 5000,
]
NO_COUNTS = NO_NUMBERS + [-1, -2, -97, -10 ** 20, -10 ** 5000]


def within_itself():
    row = [1, 2]
    row.append(row)
    return row


def no_rests(prime):
    """What is no rest by the prime."""
    return NO_NUMBERS + [-1, -prime, prime, prime + 1, 10 ** 20, 10 ** 5000]


def no_lists(prime, least, most):
    """What is no list of so many rests by the prime, at least and at most."""
    wrong = [thing for thing in NO_NUMBERS if not isinstance(thing, list)]
    wrong += [0, 1, prime, 10 ** 20, [0] * (most + 1), [1] * (most + 1), [0] * 400, (1,), (1, 0), (0, 1), "01", "1"]
    wrong += [b"1", b"01", {1: 1}, {0: 0, 1: 1}, {0, 1}, iter([0, 1]), [[0, 1]], [[1]], [(0, 1)], within_itself()]
    if least > 0:
        wrong.append([])
    for rest in no_rests(prime):
        wrong += [[rest], [rest, 0], [0, rest], [1, rest], [1] * (most - 1) + [rest]]
        wrong += [[1] * (most // 2) + [rest] + [0] * (most - 1 - most // 2)]
    return wrong


def no_rows(prime):
    """What is no cut row by the prime."""
    return no_lists(prime, 1, 20)


def no_rules(prime):
    """What is no rule by the prime."""
    wrong = NO_NUMBERS + [0, 1, prime, 10 ** 20, [[1], [1]], [[], [1]], ([1],), ([], [1], [1]), ([1], [1], 1), ([], [])]
    wrong += [((), (1,)), ((1,), (1,)), ([1], (1,)), ({0: 1}, {0: 1}), {0: [1], 1: [1]}, (([1], [1]),), [([1], [1])]]
    wrong += [([1], [0]), ([1], [0, 1]), ([], [0] * 8), ([1], [-1]), ([1], [prime + 1]), iter([[1], [1]])]
    wrong += [([1], [rest, 1]) for rest in range(2, prime)]
    wrong += [(top, [1]) for top in no_lists(prime, 0, 8)]
    wrong += [([1], bottom) for bottom in no_lists(prime, 1, 8)]
    return wrong


def no_places(prime):
    """What are no first places of a row by the prime."""
    return no_lists(prime, 0, 24)


def no_terms(prime):
    """What are no terms by the prime."""
    wrong = list(NO_NUMBERS)
    wrong += [0, 1, prime, 10 ** 20, (1, 1, 1), [(1, 1, 1)] * 7, [(1, 1, 1)] * 400, ((1, 1, 1),), {(1, 1, 1): 1}]
    wrong += [{(1, 1, 1)}, iter([(1, 1, 1)]), within_itself()]
    no_triples = NO_NUMBERS + [0, 1, 10 ** 20, [1, 1, 1], (1, 1), (1,), (1, 1, 1, 1), ((1, 1, 1),), [(1, 1, 1)], "111"]
    no_triples += [{0: 1, 1: 1, 2: 1}, range(1, 4), iter([1, 1, 1])]
    no_triples += [(rest, 1, 1) for rest in no_rests(prime)]
    no_triples += [(1, shift, 1) for shift in NO_NUMBERS + [0, -1, 5, 6, 10 ** 20, -10 ** 20, 10 ** 5000]]
    no_triples += [(1, 1, power) for power in NO_NUMBERS + [-1, 4, 5, 10 ** 20, -10 ** 20, 10 ** 5000]]
    for triple in no_triples:
        wrong += [[triple], [triple, (1, 1, 1)], [(1, 1, 1)] * 5 + [triple]]
    return wrong


def rows(prime, length, first=None, second=None, many=3):
    """Rows of this length, always the same ones, with place 0 and place 1 among those given."""
    source = random.Random(f"{prime} {length} {first} {second}")
    told = [[prime - 1] * length, [0] * length, [1] * length]
    told += [[source.randrange(prime) for place in range(length)] for turn in range(many)]
    for row in told:
        if first is not None:
            row[0] = source.choice(first)
        if second is not None and length > 1:
            row[1] = source.choice(second)
    return told


def rules(prime, many=3):
    """Rules of all lengths that the document names, always the same ones."""
    source = random.Random(f"rules {prime}")
    told = []
    for top_length, bottom_length in [(0, 1), (0, 8), (1, 1), (8, 1), (1, 8), (8, 8), (3, 2), (2, 3), (5, 8), (8, 5)]:
        told.append(([prime - 1] * top_length, [1] + [prime - 1] * (bottom_length - 1)))
        for turn in range(many):
            top = [source.randrange(prime) for place in range(top_length)]
            told.append((top, [1] + [source.randrange(prime) for place in range(1, bottom_length)]))
    return told


def slow_opened(prime, rule, many):
    """The places, one by one, from what the bottom times the row comes to."""
    top, bottom = rule
    told = []
    for place in range(many):
        rest = top[place] if place < len(top) else 0
        for back in range(1, min(len(bottom), place + 1)):
            rest -= bottom[back] * told[place - back]
        told.append(rest % prime)
    return told


def slow_times(prime, one, other):
    many = min(len(one), len(other))
    told = [0] * many
    for first in range(many):
        for second in range(many - first):
            told[first + second] += one[first] * other[second]
    return [number % prime for number in told]


def unit(length):
    """The row 1, 0, 0, .."""
    return [1] + [0] * (length - 1)


def sign(length):
    """The row 0, 1, 0, 0, .."""
    return [0, 1] + [0] * (length - 2)


def slow_raised(prime, row, many):
    told = unit(len(row))
    for turn in range(many):
        told = slow_times(prime, told, row)
    return told


def raised_by_bits(prime, row, many):
    """As slow_raised, for counts beyond any loop, by nothing but multiplying."""
    told = unit(len(row))
    for bit in f"{many:b}":
        told = slow_times(prime, told, told)
        if bit == "1":
            told = slow_times(prime, told, row)
    return told


def slow_put_in(prime, outer, inner):
    many = min(len(outer), len(inner))
    told = [0] * many
    for place in range(many):
        power = slow_raised(prime, inner[:many], place)
        told = [(have + outer[place] * rest) % prime for have, rest in zip(told, power)]
    return told


def refusal(call, *handed):
    """The class of what the call raises, or None."""
    try:
        call(*handed)
    except Exception as error:
        return type(error)
    return None
