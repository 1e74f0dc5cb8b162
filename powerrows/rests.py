"""The helper of the other files: what may be handed in, and the inverse of a rest.

The messages of the refusals name no number that was handed in: one of
thousands of digits can't be written out.
"""

from powerrows.errors import BadCount, BadPlaces, BadPrime, BadRow, BadRule, BadTerms

PRIMES = (2, 3, 5, 7, 11, 13, 17, 19, 23, 29, 31, 37, 41, 43, 47, 53, 59, 61, 67, 71, 73, 79, 83, 89, 97)
MOST_CUT = 20
MOST_RULED = 8
MOST_PLACES = 24
MOST_TERMS = 6


def is_number(thing):
    """Whether it is a whole number."""
    # True and False would pass for 1 and 0.
    return isinstance(thing, int) and not isinstance(thing, bool)


def is_within(thing, least, most):
    """Whether it is a whole number from the one to the other."""
    return is_number(thing) and least <= thing <= most


def is_rest(prime, thing):
    """Whether it is a number from 0 to one less than the prime."""
    return is_within(thing, 0, prime - 1)


def are_rests(prime, thing, least, most):
    """Whether it is a list of so many rests, at least and at most."""
    if not isinstance(thing, list) or not least <= len(thing) <= most:
        return False
    return all([is_rest(prime, rest) for rest in thing])


def is_rule(prime, thing):
    """Whether it is a pair of a top and a bottom that begins with 1."""
    if not isinstance(thing, tuple) or len(thing) != 2:
        return False
    top, bottom = thing
    if not are_rests(prime, top, 0, MOST_RULED) or not are_rests(prime, bottom, 1, MOST_RULED):
        return False
    return bottom[0] == 1


def is_term(prime, thing):
    """Whether it is a triple of a rest, a power of the sign and a power of the row."""
    if not isinstance(thing, tuple) or len(thing) != 3:
        return False
    rest, shift, power = thing
    return is_rest(prime, rest) and is_within(shift, 1, 4) and is_within(power, 0, 3)


def are_terms(prime, thing):
    """Whether it is a list of 1 to 6 terms."""
    if not isinstance(thing, list) or not 1 <= len(thing) <= MOST_TERMS:
        return False
    return all([is_term(prime, term) for term in thing])


def need_prime(prime):
    """Refuse what is no prime from 2 to 97."""
    if not is_number(prime) or prime not in PRIMES:
        raise BadPrime("not a prime from 2 to 97")


def need_row(prime, row):
    """Refuse what is no cut row."""
    if not are_rests(prime, row, 1, MOST_CUT):
        raise BadRow("not a list of 1 to 20 rests by the prime")


def need_prime_and_rows(prime, one, other):
    """Refuse, in this order, what is no prime and what is no cut row."""
    need_prime(prime)
    need_row(prime, one)
    need_row(prime, other)


def need_rule(prime, rule):
    """Refuse what is no rule."""
    if not is_rule(prime, rule):
        raise BadRule("not a pair of a list of 0 to 8 rests and one of 1 to 8 that begins with 1")


def need_places(prime, places):
    """Refuse what are no first places of a row."""
    if not are_rests(prime, places, 0, MOST_PLACES):
        raise BadPlaces("not a list of 0 to 24 rests by the prime")


def need_terms(prime, terms):
    """Refuse what are no terms."""
    if not are_terms(prime, terms):
        raise BadTerms("not a list of 1 to 6 triples of a rest, a power from 1 to 4 and one from 0 to 3")


def need_count(many):
    """Refuse what is no number from 0 on."""
    if not is_number(many) or many < 0:
        raise BadCount("not a whole number from 0 on")


def need_count_within(many, least, most):
    """Refuse what is no number from the one to the other."""
    if not is_within(many, least, most):
        raise BadCount(f"not a whole number from {least} to {most}")


def inverse(prime, rest):
    """The rest that, times this one (not 0), leaves 1."""
    # Raised by one less than the prime, every rest but 0 leaves 1: by two less, its inverse.
    told = 1
    for turn in range(prime - 2):
        told = told * rest % prime
    return told
