"""Point 8: taps found from places, or weights that bar them."""

import itertools
import random
import unittest

from powerrows.answers import Barred, Ruled
from powerrows.errors import BadCount, BadPlaces, BadPrime
from powerrows.finding import tapped
from tests.samples import NO_COUNTS, NO_PRIMES, PRIMES, no_places, refusal, rules, slow_opened


def taps_do(prime, places, taps):
    """Whether each place behind the first is what the taps bring together."""
    for at in range(len(taps), len(places)):
        if sum(tap * places[at - 1 - turn] for turn, tap in enumerate(taps)) % prime != places[at]:
            return False
    return True


class Tapped(unittest.TestCase):
    def check(self, prime, places, many):
        """The answer must be what the words of the point ask for."""
        told = tapped(prime, places, many)
        if type(told) is Ruled:
            self.assertEqual(len(told.taps), many)
            self.assertTrue(all(type(tap) is int and 0 <= tap < prime for tap in told.taps))
            self.assertTrue(taps_do(prime, places, told.taps))
        else:
            self.assertIs(type(told), Barred)
            behind = len(places) - many
            self.assertEqual(len(told.weights), behind)
            self.assertTrue(all(type(weight) is int for weight in told.weights))
            sums = []
            for distance in range(many + 1):
                sums.append(sum(told.weights[turn] * places[many + turn - distance] for turn in range(behind)) % prime)
            self.assertNotEqual(sums[0], 0)
            self.assertEqual(sums[1:], [0] * many)
        self.assertIs(told.shows(prime, places, many), True)
        return told

    def test_by_hand(self):
        self.assertEqual(tapped(7, [0, 1, 1, 2, 3, 5, 1, 6], 2).taps, [1, 1])
        self.assertEqual(tapped(5, [3, 1, 2, 4, 3], 1).taps, [2])
        self.assertEqual(tapped(5, [0, 0, 0], 0).taps, [])
        self.assertEqual(tapped(97, [1, 2, 4], 1).taps, [2])
        self.assertEqual(tapped(97, [2, 1], 1).taps, [49])
        self.assertIs(type(self.check(5, [0, 1], 1)), Barred)
        self.assertIs(type(self.check(5, [0, 0, 0, 3], 3)), Barred)
        self.assertIs(type(self.check(5, [1, 1, 2], 1)), Barred)
        self.assertIs(type(self.check(5, [0, 1, 0], 0)), Barred)
        self.assertIs(type(self.check(7, [0, 1, 1, 2, 3, 5, 1, 0], 2)), Barred)

    def test_the_first_tap_is_for_the_place_just_ahead(self):
        self.assertEqual(tapped(97, [1, 0, 3, 6, 21, 60, 86], 2).taps, [2, 3])

    def test_no_place_behind_the_first_so_many(self):
        for prime in PRIMES:
            for many in range(9):
                for length in range(many + 1):
                    told = self.check(prime, [prime - 1] * length, many)
                    self.assertIs(type(told), Ruled)
                    self.assertEqual(len(told.taps), many)

    def test_a_count_of_0(self):
        for prime in PRIMES:
            for length in [0, 1, 2, 24]:
                self.assertEqual(self.check(prime, [0] * length, 0).taps, [])
                for at in range(length):
                    places = [0] * length
                    places[at] = prime - 1
                    self.assertIs(type(self.check(prime, places, 0)), Barred)

    def test_places_of_nothing_but_0(self):
        for prime in PRIMES:
            for many in range(9):
                self.assertIs(type(self.check(prime, [0] * 24, many)), Ruled)

    def test_places_of_rules(self):
        for prime in PRIMES:
            for top, bottom in rules(prime, many=1):
                places = slow_opened(prime, (top, bottom), 24)
                for many in range(9):
                    told = self.check(prime, places, many)
                    if many >= max(len(top), len(bottom) - 1):
                        self.assertIs(type(told), Ruled)

    def test_one_place_that_does_not_fit(self):
        for prime in PRIMES:
            for rule in rules(prime, many=1):
                places = slow_opened(prime, rule, 24)
                for many, at in [(8, 23), (8, 8), (3, 12), (1, 1), (0, 0), (7, 20)]:
                    bent = list(places)
                    bent[at] = (bent[at] + 1) % prime
                    self.check(prime, bent, many)

    def test_any_places(self):
        source = random.Random(8)
        kinds = set()
        for prime in PRIMES:
            for turn in range(60):
                length, many = source.randrange(25), source.randrange(9)
                places = [source.choice([0, 0, 1, source.randrange(prime)]) for place in range(length)]
                kinds.add(type(self.check(prime, places, many)))
        self.assertEqual(kinds, {Ruled, Barred})

    def test_all_places_by_small_primes(self):
        for prime, most in [(2, 7), (3, 5)]:
            for length in range(most + 1):
                for places in itertools.product(range(prime), repeat=length):
                    for many in range(4):
                        told = self.check(prime, list(places), many)
                        some = [taps for taps in itertools.product(range(prime), repeat=many)
                                if taps_do(prime, places, taps)]
                        self.assertIs(type(told), Ruled if some else Barred)


class Refused(unittest.TestCase):
    def test_no_prime(self):
        for prime in NO_PRIMES:
            self.assertEqual(refusal(tapped, prime, [1, 0], 1), BadPrime)
            self.assertEqual(refusal(tapped, prime, [], 0), BadPrime)

    def test_no_places(self):
        for prime in [2, 5, 97]:
            for wrong in no_places(prime):
                self.assertEqual(refusal(tapped, prime, wrong, 0), BadPlaces)
                self.assertEqual(refusal(tapped, prime, wrong, 8), BadPlaces)

    def test_places_of_each_length(self):
        for length in range(25):
            self.assertIsNone(refusal(tapped, 2, [1] * length, 3))
        self.assertEqual(refusal(tapped, 2, [1] * 25, 3), BadPlaces)

    def test_no_count(self):
        for prime in [2, 5, 97]:
            for places in [[], [1], [0] * 24]:
                for many in NO_COUNTS + [9, 10, 24, 25, 10 ** 20, 10 ** 5000]:
                    self.assertEqual(refusal(tapped, prime, places, many), BadCount)
                for many in range(9):
                    self.assertIsNone(refusal(tapped, prime, places, many))

    def test_what_goes_first(self):
        self.assertEqual(refusal(tapped, 9, [9], -1), BadPrime)
        self.assertEqual(refusal(tapped, 9, [1], -1), BadPrime)
        self.assertEqual(refusal(tapped, False, None, None), BadPrime)
        self.assertEqual(refusal(tapped, 5, [5], 9), BadPlaces)
        self.assertEqual(refusal(tapped, 5, (1,), True), BadPlaces)


if __name__ == "__main__":
    unittest.main()
