"""Point 4: rows put in one another and turned inside out."""

import unittest

from powerrows.errors import BadPrime, BadRow, NoInside
from powerrows.inside import put_in, turned_out
from tests.samples import LENGTHS, NO_PRIMES, PRIMES, no_rows, refusal, rows, sign, slow_put_in


class PutIn(unittest.TestCase):
    def test_by_hand(self):
        self.assertEqual(put_in(5, [3, 1, 1], [0, 2, 1]), [3, 2, 0])
        self.assertEqual(put_in(2, [1, 1, 1, 1], [0, 1, 1, 0]), [1, 1, 0, 1])
        self.assertEqual(put_in(97, [5, 6, 7], [0, 0, 1]), [5, 0, 6])

    def test_rows_of_one_place(self):
        for prime in PRIMES:
            for rest in (0, 1, prime - 1):
                self.assertEqual(put_in(prime, [rest], [0]), [rest])
                self.assertEqual(put_in(prime, [rest, 1, 1], [0]), [rest])
                self.assertEqual(put_in(prime, [rest], [0, 1, 1]), [rest])

    def test_an_inner_row_of_nothing_but_0(self):
        self.assertEqual(put_in(7, [4, 5, 6], [0, 0, 0]), [4, 0, 0])

    def test_the_sign_changes_nothing(self):
        for prime in PRIMES:
            for row in rows(prime, 20):
                self.assertEqual(put_in(prime, row, sign(20)), row)

    def test_as_the_sum_of_all_powers(self):
        for prime in PRIMES:
            for outer_length, inner_length in [(1, 20), (20, 1), (3, 7), (7, 3), (20, 20)]:
                for outer in rows(prime, outer_length, many=1):
                    for inner in rows(prime, inner_length, first=[0], many=1):
                        self.assertEqual(put_in(prime, outer, inner), slow_put_in(prime, outer, inner))

    def test_place_0_of_the_inner_row_must_be_0(self):
        for prime in PRIMES:
            for length in LENGTHS:
                for inner in rows(prime, length, first=range(1, prime)):
                    self.assertEqual(refusal(put_in, prime, [1, 1, 0], inner), NoInside)
        self.assertEqual(refusal(put_in, 5, [1], [1]), NoInside)
        self.assertEqual(refusal(put_in, 5, [0], [4, 0]), NoInside)


class TurnedOut(unittest.TestCase):
    def test_by_hand(self):
        self.assertEqual(turned_out(5, [0, 1]), [0, 1])
        self.assertEqual(turned_out(5, [0, 2]), [0, 3])
        self.assertEqual(turned_out(7, [0, 1, 1, 0]), [0, 1, 6, 2])
        self.assertEqual(turned_out(2, [0, 1, 1, 0, 0]), [0, 1, 1, 0, 1])

    def test_comes_to_the_sign_either_way_round(self):
        for prime in PRIMES:
            for length in LENGTHS[1:]:
                for row in rows(prime, length, first=[0], second=range(1, prime)):
                    told = turned_out(prime, row)
                    self.assertEqual(len(told), length)
                    self.assertTrue(all(0 <= rest < prime for rest in told))
                    self.assertEqual(slow_put_in(prime, row, told), sign(length))
                    self.assertEqual(slow_put_in(prime, told, row), sign(length))
                    self.assertEqual(put_in(prime, row, told), sign(length))
                    self.assertEqual(put_in(prime, told, row), sign(length))

    def test_each_rest_at_place_1(self):
        for prime in PRIMES:
            for rest in range(1, prime):
                for row in rows(prime, 5, first=[0], second=[rest]) + [[0, rest]]:
                    told = turned_out(prime, row)
                    self.assertTrue(all(0 <= number < prime for number in told))
                    self.assertEqual(told[0], 0)
                    self.assertEqual(told[1] * rest % prime, 1)
                    self.assertEqual(slow_put_in(prime, row, told), sign(len(row)))

    def test_rows_that_cannot_be(self):
        for prime in PRIMES:
            for rest in range(prime):
                self.assertEqual(refusal(turned_out, prime, [rest]), NoInside)
            for length in LENGTHS[1:]:
                for row in rows(prime, length, first=[0], second=[0]):
                    self.assertEqual(refusal(turned_out, prime, row), NoInside)
                for row in rows(prime, length, first=range(1, prime)):
                    self.assertEqual(refusal(turned_out, prime, row), NoInside)


class Refused(unittest.TestCase):
    def test_no_prime(self):
        for prime in NO_PRIMES:
            self.assertEqual(refusal(put_in, prime, [1, 0], [0, 1]), BadPrime)
            self.assertEqual(refusal(turned_out, prime, [0, 1]), BadPrime)

    def test_no_row(self):
        for prime in [2, 5, 97]:
            for wrong in no_rows(prime):
                self.assertEqual(refusal(put_in, prime, wrong, [0, 1]), BadRow)
                self.assertEqual(refusal(put_in, prime, [1, 1], wrong), BadRow)
                self.assertEqual(refusal(turned_out, prime, wrong), BadRow)

    def test_what_goes_first(self):
        self.assertEqual(refusal(put_in, 9, [9], [9]), BadPrime)
        self.assertEqual(refusal(put_in, 9, [1], [1]), BadPrime)
        self.assertEqual(refusal(put_in, 5, [5], [1]), BadRow)
        self.assertEqual(refusal(put_in, 5, [1], [1, 5]), BadRow)
        self.assertEqual(refusal(turned_out, 9, [9]), BadPrime)
        self.assertEqual(refusal(turned_out, 9, [0]), BadPrime)
        self.assertEqual(refusal(turned_out, 5, [5]), BadRow)
        self.assertEqual(refusal(turned_out, 5, [1, 1, 5]), BadRow)


if __name__ == "__main__":
    unittest.main()
