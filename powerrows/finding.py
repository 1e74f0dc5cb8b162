"""Taps found for the first places of a row, or weights that bar them."""

from powerrows.answers import Barred, Ruled
from powerrows.rests import inverse, need_count_within, need_places, need_prime


def tapped(prime, places, many):
    """So many taps by which each place behind the first so many follows, or weights that bar them."""
    need_prime(prime)
    need_places(prime, places)
    need_count_within(many, 0, 8)
    leads = {}
    for demand in demands(places, many):
        line = demand
        for column in leads:
            line = cleared(prime, line, leads[column], column)
        standing = [column for column in range(many + 1) if line[column] != 0]
        if standing == [many]:
            return Barred(line[many + 1:])
        if standing != []:
            leads = with_lead(prime, leads, line, standing[0])
    return Ruled([leads[column][many] if column in leads else 0 for column in range(many)])


def demands(places, many):
    """What each place behind the first so many asks of the taps, a line for each.

    A line has first the places ahead, the nearest first, then the place to
    which the taps are to bring them together. Behind that stands how often
    each of these demands is in the line: here once its own.
    """
    lines = []
    for at in range(many, len(places)):
        own = [0] * (len(places) - many)
        own[at - many] = 1
        lines.append([places[at - distance] for distance in range(1, many + 1)] + [places[at]] + own)
    return lines


def cleared(prime, line, lead, column):
    """The line less as much of the lead as leaves 0 in the column."""
    share = line[column]
    return [(rest - share * less) % prime for rest, less in zip(line, lead)]


def with_lead(prime, leads, line, column):
    """The leads, cleared by the line, and the line as the lead of the column."""
    share = inverse(prime, line[column])
    lead = [rest * share % prime for rest in line]
    grown = {other: cleared(prime, leads[other], lead, column) for other in leads}
    grown[column] = lead
    return grown
