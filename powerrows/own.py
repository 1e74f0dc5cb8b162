"""Rows grown by rules of their own."""

from powerrows.rests import need_count_within, need_prime, need_terms
from powerrows.rows import product_place


def grown(prime, terms, many):
    """So many first places of the row that is the sum of its terms."""
    need_prime(prime)
    need_terms(prime, terms)
    need_count_within(many, 1, 20)
    # The row raised to 0, 1, 2 and 3. As each term has a power of the sign of
    # 1 at least, it asks only for places that are there already.
    powers = [[], [], [], []]
    for place in range(many):
        powers[0].append(1 if place == 0 else 0)
        powers[1].append(term_sum(terms, powers, place) % prime)
        powers[2].append(product_place(powers[1], powers[1], place) % prime)
        powers[3].append(product_place(powers[2], powers[1], place) % prime)
    return powers[1]


def term_sum(terms, powers, place):
    """The sum of all terms at this place."""
    return sum([rest * powers[power][place - shift] for rest, shift, power in terms if shift <= place])
