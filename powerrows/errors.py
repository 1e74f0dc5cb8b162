"""The refusals, each straight under PowerError."""


class PowerError(ValueError):
    """What was asked for is refused."""


class BadPrime(PowerError):
    """No prime from 2 to 97."""


class BadRow(PowerError):
    """No cut row: no list of 1 to 20 rests."""


class BadCount(PowerError):
    """No number, or none within the limits that hold where it is handed in."""


class BadRule(PowerError):
    """No rule: no pair of a top and a bottom."""


class BadPlaces(PowerError):
    """No list of 0 to 24 rests."""


class BadTerms(PowerError):
    """No list of 1 to 6 terms."""


class NoPart(PowerError):
    """The row to part by has 0 at place 0."""


class NoInside(PowerError):
    """The row can't be put in another one, or can't be turned inside out."""


class NoRoot(PowerError):
    """No row multiplied by itself comes to this one, or the prime is 2."""
