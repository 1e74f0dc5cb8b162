"""Points 2 and 3: cut rows put together, multiplied and parted."""

import unittest

from powerrows.errors import BadPrime, BadRow, NoPart
from powerrows.rows import parted, plus, times
from tests.samples import LENGTHS, NO_PRIMES, PRIMES, no_rows, refusal, rows, slow_times, unit

ALL = [plus, times, parted]


def pairs(prime):
    """Pairs of rows of like and of unlike length."""
    for one_length, other_length in [(1, 1), (1, 20), (20, 1), (2, 3), (7, 7), (20, 19), (20, 20)]:
        for one in rows(prime, one_length):
            for other in rows(prime, other_length):
                yield one, other


class Plus(unittest.TestCase):
    def test_by_hand(self):
        self.assertEqual(plus(5, [1, 2, 3], [4, 4, 4]), [0, 1, 2])
        self.assertEqual(plus(2, [1], [1]), [0])
        self.assertEqual(plus(97, [96, 0], [96, 50]), [95, 50])

    def test_only_so_far_as_the_shorter(self):
        self.assertEqual(plus(7, [1, 2, 3], [6]), [0])
        self.assertEqual(plus(7, [6], [1, 2, 3]), [0])

    def test_each_place(self):
        for prime in PRIMES:
            for one, other in pairs(prime):
                told = plus(prime, one, other)
                self.assertEqual(told, [(one[at] + other[at]) % prime for at in range(min(len(one), len(other)))])


class Times(unittest.TestCase):
    def test_by_hand(self):
        self.assertEqual(times(5, [1, 2, 3], [4, 0, 1]), [4, 3, 3])
        self.assertEqual(times(2, [1, 1, 0], [1, 1, 0]), [1, 0, 1])
        self.assertEqual(times(97, [96], [96]), [1])

    def test_only_so_far_as_the_shorter(self):
        self.assertEqual(times(7, [1, 2, 3], [2, 1]), [2, 5])
        self.assertEqual(times(7, [2, 1], [1, 2, 3]), [2, 5])

    def test_each_place(self):
        for prime in PRIMES:
            for one, other in pairs(prime):
                self.assertEqual(times(prime, one, other), slow_times(prime, one, other))


class Parted(unittest.TestCase):
    def test_by_hand(self):
        self.assertEqual(parted(5, [1, 0, 0, 0], [1, 4, 0, 0]), [1, 1, 1, 1])
        self.assertEqual(parted(7, [1, 0, 0], [2, 0, 0]), [4, 0, 0])
        self.assertEqual(parted(2, [0, 1, 1], [1, 1, 1]), [0, 1, 0])

    def test_only_so_far_as_the_shorter(self):
        self.assertEqual(parted(7, [3, 1, 2, 3], [1, 1]), [3, 5])
        self.assertEqual(parted(7, [3, 1], [1, 1, 5, 6]), [3, 5])

    def test_comes_to_the_one_when_multiplied_by_the_other(self):
        for prime in PRIMES:
            for one, other in pairs(prime):
                if other[0] == 0:
                    continue
                told = parted(prime, one, other)
                many = min(len(one), len(other))
                self.assertEqual(len(told), many)
                self.assertTrue(all(0 <= rest < prime for rest in told))
                self.assertEqual(slow_times(prime, told, other), one[:many])

    def test_by_each_rest(self):
        for prime in PRIMES:
            for rest in range(1, prime):
                told = parted(prime, unit(3), [rest, 0, 0])
                self.assertEqual(told[0] * rest % prime, 1)
                self.assertEqual(told[1:], [0, 0])

    def test_by_each_rest_ahead_of_others(self):
        for prime in PRIMES:
            for rest in range(1, prime):
                for one, other in zip(rows(prime, 6), rows(prime, 6, first=[rest])):
                    told = parted(prime, one, other)
                    self.assertTrue(all(0 <= number < prime for number in told))
                    self.assertEqual(slow_times(prime, told, other), one)

    def test_place_0_of_the_other_must_not_be_0(self):
        for prime in PRIMES:
            for length in LENGTHS:
                for one in rows(prime, 5):
                    for other in rows(prime, length, first=[0]):
                        self.assertEqual(refusal(parted, prime, one, other), NoPart)

    def test_place_0_of_the_one_may_be_0(self):
        self.assertEqual(parted(3, [0], [2]), [0])
        self.assertEqual(parted(3, [0, 0], [2, 1]), [0, 0])


class Refused(unittest.TestCase):
    def test_no_prime(self):
        for call in ALL:
            for prime in NO_PRIMES:
                self.assertEqual(refusal(call, prime, [1, 0], [1, 1]), BadPrime, (call, str(type(prime))))

    def test_no_row(self):
        for call in ALL:
            for prime in [2, 5, 97]:
                for wrong in no_rows(prime):
                    self.assertEqual(refusal(call, prime, wrong, [1, 1]), BadRow)
                    self.assertEqual(refusal(call, prime, [1, 1], wrong), BadRow)
                    self.assertEqual(refusal(call, prime, wrong, wrong), BadRow)

    def test_each_prime_has_its_own_rests(self):
        for call in ALL:
            for prime in PRIMES:
                self.assertEqual(refusal(call, prime, [prime - 1], [prime - 1]), None)
                self.assertEqual(refusal(call, prime, [prime], [prime - 1]), BadRow)
                self.assertEqual(refusal(call, prime, [prime - 1], [prime]), BadRow)

    def test_what_goes_first(self):
        for call in ALL:
            self.assertEqual(refusal(call, 4, [9], [9]), BadPrime)
            self.assertEqual(refusal(call, None, None, None), BadPrime)
            self.assertEqual(refusal(call, True, [1], [0]), BadPrime)
        self.assertEqual(refusal(parted, 5, [5], [0]), BadRow)
        self.assertEqual(refusal(parted, 5, [1], [0, 5]), BadRow)
        self.assertEqual(refusal(parted, 5, (1,), [0]), BadRow)
        self.assertEqual(refusal(parted, 6, [1], [0]), BadPrime)


if __name__ == "__main__":
    unittest.main()
