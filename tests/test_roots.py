"""Point 5: rows raised and rooted."""

import unittest

from powerrows.errors import BadCount, BadPrime, BadRow, NoRoot
from powerrows.roots import raised, root
from tests.samples import (
    LENGTHS, NO_COUNTS, NO_PRIMES, PRIMES, no_rows, raised_by_bits, refusal, rows, slow_raised, slow_times, unit,
)

GREAT = [10 ** 20, 10 ** 20 + 7, 2 ** 200]


class Raised(unittest.TestCase):
    def test_by_hand(self):
        self.assertEqual(raised(5, [1, 1, 0, 0], 3), [1, 3, 3, 1])
        self.assertEqual(raised(2, [1, 1, 0, 0], 2), [1, 0, 1, 0])
        self.assertEqual(raised(7, [0, 2, 0, 0], 3), [0, 0, 0, 1])

    def test_not_at_all(self):
        for prime in PRIMES:
            for length in LENGTHS:
                for row in rows(prime, length):
                    self.assertEqual(raised(prime, row, 0), unit(length))

    def test_once(self):
        for prime in PRIMES:
            for length in LENGTHS:
                for row in rows(prime, length):
                    self.assertEqual(raised(prime, row, 1), row)

    def test_a_few_times(self):
        for prime in PRIMES:
            for length in [1, 2, 8, 20]:
                for row in rows(prime, length, many=1) + rows(prime, length, first=[0], many=1):
                    for many in [2, 3, 7, 19, 20, 21]:
                        self.assertEqual(raised(prime, row, many), slow_raised(prime, row, many))

    def test_each_rest_at_place_0(self):
        for prime in PRIMES:
            for rest in range(prime):
                for row in rows(prime, 4, first=[rest], many=1):
                    for many in [2, prime - 1, prime, prime + 1]:
                        self.assertEqual(raised(prime, row, many), raised_by_bits(prime, row, many))

    def test_each_count_in_a_long_run(self):
        for prime in [2, 3, 5]:
            for length in LENGTHS:
                for row in rows(prime, length, many=1):
                    power = unit(length)
                    for many in range(220):
                        self.assertEqual(raised(prime, row, many), power)
                        power = slow_times(prime, power, row)

    def test_so_often_that_no_loop_gets_there(self):
        for prime in PRIMES:
            for length in [1, prime, prime + 1, 20]:
                if length > 20:
                    continue
                for row in rows(prime, length, many=1) + rows(prime, length, first=[0], many=1):
                    for many in GREAT:
                        self.assertEqual(raised(prime, row, many), raised_by_bits(prime, row, many))

    def test_counts_of_thousands_of_digits(self):
        self.assertEqual(raised(2, [1, 1, 0], 10 ** 20000), [1, 0, 0])
        self.assertEqual(raised(2, [1, 1, 0], 10 ** 20000 + 1), [1, 1, 0])
        self.assertEqual(raised(97, [0, 1] * 10, 10 ** 20000), [0] * 20)
        self.assertEqual(raised(97, [5], 96 * 10 ** 20000), [1])


class Root(unittest.TestCase):
    def test_by_hand(self):
        self.assertEqual(root(7, [2]), [3])
        self.assertEqual(root(5, [1, 2, 1]), [1, 1, 0])
        self.assertEqual(root(5, [4, 0, 0]), [2, 0, 0])
        self.assertEqual(root(3, [1, 1, 0, 0]), [1, 2, 1, 1])

    def test_each_place_0(self):
        for prime in PRIMES[1:]:
            squares = {}
            for rest in reversed(range(1, prime)):
                squares[rest * rest % prime] = rest
            for first in range(prime):
                if first in squares:
                    self.assertEqual(root(prime, [first]), [squares[first]])
                else:
                    self.assertEqual(refusal(root, prime, [first]), NoRoot)
                    self.assertEqual(refusal(root, prime, [first, 1, 0]), NoRoot)

    def test_each_place_0_of_a_longer_row(self):
        for prime in PRIMES[1:]:
            for half in range(1, prime):
                for row in rows(prime, 5, first=[half * half % prime]):
                    told = root(prime, row)
                    self.assertEqual(told[0], min(half, prime - half))
                    self.assertTrue(all(0 <= number < prime for number in told))
                    self.assertEqual(slow_times(prime, told, told), row)

    def test_multiplied_by_itself_comes_to_the_row(self):
        for prime in PRIMES[1:]:
            squares = sorted({rest * rest % prime for rest in range(1, prime)})
            for length in LENGTHS:
                for row in rows(prime, length, first=squares):
                    told = root(prime, row)
                    self.assertEqual(slow_times(prime, told, told), row)
                    self.assertTrue(all(0 <= rest < prime for rest in told))
                    self.assertTrue(0 < told[0] < prime - told[0])

    def test_of_a_row_multiplied_by_itself(self):
        for prime in PRIMES[1:]:
            for row in rows(prime, 20, first=range(1, prime)):
                other = [-rest % prime for rest in row]
                self.assertEqual(root(prime, slow_times(prime, row, row)), min(row, other, key=lambda two: two[0]))

    def test_the_prime_2(self):
        for row in [[0], [1], [1, 0], [0, 0, 1], [1] * 20]:
            self.assertEqual(refusal(root, 2, row), NoRoot)

    def test_place_0_that_is_0(self):
        for prime in PRIMES:
            for row in [[0], [0, 0], [0, 0, 1], [0, 1], [0] * 20]:
                self.assertEqual(refusal(root, prime, row), NoRoot)


class Refused(unittest.TestCase):
    def test_no_prime(self):
        for prime in NO_PRIMES:
            self.assertEqual(refusal(raised, prime, [1, 0], 2), BadPrime)
            self.assertEqual(refusal(root, prime, [1, 0]), BadPrime)

    def test_no_row(self):
        for prime in [2, 5, 97]:
            for wrong in no_rows(prime):
                self.assertEqual(refusal(raised, prime, wrong, 2), BadRow)
                self.assertEqual(refusal(raised, prime, wrong, 0), BadRow)
                self.assertEqual(refusal(root, prime, wrong), BadRow)

    def test_no_count(self):
        for prime in [2, 5, 97]:
            for row in [[0], [1], [1, 1], [0] * 20]:
                for many in NO_COUNTS:
                    self.assertEqual(refusal(raised, prime, row, many), BadCount)

    def test_what_goes_first(self):
        self.assertEqual(refusal(raised, 9, [9], -1), BadPrime)
        self.assertEqual(refusal(raised, 9, [1], -1), BadPrime)
        self.assertEqual(refusal(raised, 5, [5], -1), BadRow)
        self.assertEqual(refusal(raised, 5, [5], True), BadRow)
        self.assertEqual(refusal(root, 4, [0]), BadPrime)
        self.assertEqual(refusal(root, 4, [9]), BadPrime)
        self.assertEqual(refusal(root, 2, [2]), BadRow)
        self.assertEqual(refusal(root, 5, [0, 5]), BadRow)
        self.assertEqual(refusal(root, 2, [1]), NoRoot)


if __name__ == "__main__":
    unittest.main()
