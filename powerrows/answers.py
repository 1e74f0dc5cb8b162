"""What is told of two rules, and of the first places of a row and a count of taps."""

from powerrows.rests import is_rest
from powerrows.rows import first_places, whole_product


class Answer:
    """One of two things that may be told; it can be asked whether it is so."""


class Alike(Answer):
    """The rows of two rules are the same for good."""

    def shows(self, prime, one, other):
        """Whether it is so of these two rules."""
        return first_unlike(prime, one, other) is None


class Unlike(Answer):
    """The rows of two rules aren't the same, and this is the first place at which they aren't."""

    def __init__(self, at):
        self.at = at

    def shows(self, prime, one, other):
        """Whether it is so of these two rules."""
        first = first_unlike(prime, one, other)
        return first is not None and self.at == first


class Ruled(Answer):
    """Taps by which each place follows from those ahead of it."""

    def __init__(self, taps):
        self.taps = list(taps)

    def shows(self, prime, places, many):
        """Whether so many taps do so for these places."""
        if len(self.taps) != many or not all([is_rest(prime, tap) for tap in self.taps]):
            return False
        return all([self.goes_on(prime, places, at) for at in range(many, len(places))])

    def goes_on(self, prime, places, at):
        """Whether the place follows by the taps from those ahead of it."""
        ahead = places[at - len(self.taps):at]
        return weighed(prime, self.taps, ahead[::-1]) == places[at]


class Barred(Answer):
    """Weights by which no taps can do so."""

    def __init__(self, weights):
        self.weights = list(weights)

    def shows(self, prime, places, many):
        """Whether they bar so many taps for these places."""
        if len(self.weights) != len(places) - many:
            return False
        if weighed(prime, self.weights, places[many:]) == 0:
            return False
        sums = [weighed(prime, self.weights, places[many - distance:]) for distance in range(1, many + 1)]
        return all([total == 0 for total in sums])


def first_unlike(prime, one, other):
    """The first place at which the rows of two rules aren't the same, or None."""
    # Multiplied by both bottoms, which begin with 1, the rows come to these two,
    # and the first place at which they aren't the same stays where it is.
    left = whole_product(prime, one[0], other[1])
    right = whole_product(prime, other[0], one[1])
    many = max(len(left), len(right))
    for at, (rest, same) in enumerate(zip(first_places(left, many), first_places(right, many))):
        if rest != same:
            return at
    return None


def weighed(prime, weights, places):
    """The sum of each weight times its place, as far as the shorter list goes."""
    return sum([weight * place for weight, place in zip(weights, places)]) % prime
