"""Point 9: rows grown by rules of their own."""

import random
import unittest

from powerrows.errors import BadCount, BadPrime, BadTerms
from powerrows.own import grown
from tests.samples import NO_COUNTS, NO_PRIMES, PRIMES, no_terms, refusal, slow_raised


def terms_of(prime):
    """Terms of all kinds, always the same ones."""
    source = random.Random(f"terms {prime}")
    told = [[(prime - 1, shift, power)] for shift in range(1, 5) for power in range(4)]
    told += [[(1, 1, 0), (prime - 1, shift, power)] for shift in range(1, 5) for power in range(4)]
    told += [[(1, 1, 0), (1, 1, 0), (1, 1, 3), (1, 1, 3)], [(prime - 1, 1, 2)] * 6, [(1, 1, 0)] + [(1, 1, 2)] * 5]
    for many in [1, 2, 3, 6, 6, 6]:
        told.append([(source.randrange(prime), source.randint(1, 4), source.randint(0, 3)) for term in range(many)])
    return told


def come(prime, terms, row):
    """The sum of the terms, each with the row raised to its power."""
    told = [0] * len(row)
    for rest, shift, power in terms:
        for place, share in enumerate(slow_raised(prime, row, power)):
            if place + shift < len(row):
                told[place + shift] += rest * share
    return [number % prime for number in told]


class Grown(unittest.TestCase):
    def test_by_hand(self):
        self.assertEqual(grown(7, [(3, 2, 0)], 4), [0, 0, 3, 0])
        self.assertEqual(grown(7, [(1, 1, 0), (1, 1, 1), (1, 2, 1)], 8), [0, 1, 1, 2, 3, 5, 1, 6])
        self.assertEqual(grown(97, [(1, 1, 0), (1, 1, 2)], 8), [0, 1, 0, 1, 0, 2, 0, 5])
        self.assertEqual(grown(97, [(1, 1, 0), (1, 1, 3)], 8), [0, 1, 0, 0, 1, 0, 0, 3])
        self.assertEqual(grown(5, [(1, 1, 0), (4, 1, 0)], 3), [0, 0, 0])
        self.assertEqual(grown(5, [(1, 4, 0), (4, 4, 0), (2, 4, 0)], 6), [0, 0, 0, 0, 2, 0])

    def test_by_the_row_alone_nothing_grows(self):
        for prime in PRIMES:
            for power in (1, 2, 3):
                self.assertEqual(grown(prime, [(prime - 1, 1, power)], 20), [0] * 20)

    def test_keeps_its_rule_place_by_place(self):
        for prime in PRIMES:
            for terms in terms_of(prime):
                row = grown(prime, terms, 20)
                self.assertEqual(len(row), 20)
                self.assertTrue(all(type(rest) is int and 0 <= rest < prime for rest in row))
                self.assertEqual(come(prime, terms, row), row)

    def test_how_many(self):
        for prime in [2, 7, 97]:
            for terms in terms_of(prime):
                row = grown(prime, terms, 20)
                for many in range(1, 21):
                    self.assertEqual(grown(prime, terms, many), row[:many])

    def test_the_order_of_the_terms_is_nothing(self):
        for prime in PRIMES:
            for terms in terms_of(prime):
                self.assertEqual(grown(prime, terms[::-1], 12), grown(prime, terms, 12))

    def test_terms_with_the_same_powers_come_together(self):
        for prime in PRIMES:
            both = grown(prime, [(1, 1, 0), (1, 2, 2), (prime - 1, 1, 3), (1, 2, 2)], 20)
            self.assertEqual(both, grown(prime, [(1, 1, 0), (2 % prime, 2, 2), (prime - 1, 1, 3)], 20))


class Refused(unittest.TestCase):
    def test_no_prime(self):
        for prime in NO_PRIMES:
            self.assertEqual(refusal(grown, prime, [(1, 1, 1)], 5), BadPrime)

    def test_no_terms(self):
        for prime in [2, 5, 97]:
            for wrong in no_terms(prime):
                self.assertEqual(refusal(grown, prime, wrong, 1), BadTerms)
                self.assertEqual(refusal(grown, prime, wrong, 20), BadTerms)

    def test_each_prime_has_its_own_rests(self):
        for prime in PRIMES:
            self.assertIsNone(refusal(grown, prime, [(prime - 1, 1, 1), (0, 1, 1)], 3))
            self.assertEqual(refusal(grown, prime, [(prime, 1, 1)], 3), BadTerms)

    def test_one_to_six_terms(self):
        for many in range(1, 7):
            self.assertIsNone(refusal(grown, 5, [(1, 4, 3)] * many, 3))

    def test_no_count(self):
        for prime in [2, 5, 97]:
            for terms in [[(1, 1, 0)], [(1, 1, 1)] * 6]:
                for many in NO_COUNTS + [0, 21, 22, 400, 10 ** 20, 10 ** 5000]:
                    self.assertEqual(refusal(grown, prime, terms, many), BadCount)

    def test_what_goes_first(self):
        self.assertEqual(refusal(grown, 9, [(9, 0, 4)], 0), BadPrime)
        self.assertEqual(refusal(grown, 9, [(1, 1, 1)], 0), BadPrime)
        self.assertEqual(refusal(grown, None, None, None), BadPrime)
        self.assertEqual(refusal(grown, 5, [(5, 1, 1)], 0), BadTerms)
        self.assertEqual(refusal(grown, 5, [[1, 1, 1]], True), BadTerms)
        self.assertEqual(refusal(grown, 5, [(1, 1, 1)] * 7, 21), BadTerms)


if __name__ == "__main__":
    unittest.main()
