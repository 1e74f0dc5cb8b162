"""Rules of two short rows: their first places, any place at once, and whether two are alike."""

from powerrows.answers import Alike, Unlike, first_unlike
from powerrows.rests import MOST_RULED, need_count, need_count_within, need_prime, need_rule
from powerrows.rows import first_places, quotient, whole_product


def opened(prime, rule, many):
    """So many first places of the rule's row."""
    need_prime(prime)
    need_rule(prime, rule)
    need_count_within(many, 0, 400)
    top, bottom = rule
    # Both are 0 behind their ends; as the top is cut, the bottom may go on further.
    return quotient(prime, first_places(top, many), bottom + [0] * many)


def far_place(prime, rule, at):
    """The rest at this place of the rule's row."""
    need_prime(prime)
    need_rule(prime, rule)
    need_count(at)
    top, bottom = rule
    left = lesser_place(prime, at)
    while left > 0:
        # Where top and bottom are multiplied by the bottom with its odd places
        # turned, the row stays as it is, and the bottom has only 0 at its odd
        # places. So the row's even places are the row of a rule of their own,
        # and its odd ones of another: the place asked for is there at half.
        turned = [-rest if place % 2 == 1 else rest for place, rest in enumerate(bottom)]
        top = whole_product(prime, top, turned)[left % 2::2]
        bottom = whole_product(prime, bottom, turned)[::2]
        left = left // 2
    # The bottom still begins with 1.
    return first_places(top, 1)[0]


def lesser_place(prime, at):
    """A place, not so far, at which the row of any rule has the same rest as at this one."""
    # A place may have any number of digits, but behind the end of its top the
    # row of a rule comes round. A factor of the bottom that has no factors of
    # its own goes up to some power n of the sign, from 1 to 7, and so into the
    # sign raised to one less than the n-th power of the prime, less 1. All of
    # them go into the sign raised to the product of these, less 1; and as none
    # is in the bottom more than 7 times, the bottom goes into that raised to
    # the third power of the prime, which raises its two parts alone.
    if at < MOST_RULED:
        return at
    around = prime * prime * prime
    power = 1
    for turn in range(1, MOST_RULED):
        power = power * prime
        around = around * (power - 1)
    return MOST_RULED + (at - MOST_RULED) % around


def alike(prime, one, other):
    """Whether the rows of the two rules are the same for good, or the first place at which they aren't."""
    need_prime(prime)
    need_rule(prime, one)
    need_rule(prime, other)
    at = first_unlike(prime, one, other)
    if at is None:
        return Alike()
    return Unlike(at)
