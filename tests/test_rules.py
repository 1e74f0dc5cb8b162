"""Points 6 and 7: rules, their first places, far places, and whether two are alike."""

import math
import unittest

from powerrows.answers import Alike, Unlike
from powerrows.errors import BadCount, BadPrime, BadRule
from powerrows.rules import alike, far_place, opened
from tests.samples import NO_COUNTS, NO_PRIMES, PRIMES, no_rules, refusal, rules, slow_opened

FAR = [10 ** 30, 10 ** 30 + 1, 10 ** 60 - 1, 10 ** 100 + 10 ** 7]


def multiplied(prime, one, other):
    """Two rows that end, multiplied, to their very end."""
    told = [0] * (len(one) + len(other))
    for first in range(len(one)):
        for second in range(len(other)):
            told[first + second] += one[first] * other[second]
    told = [number % prime for number in told]
    while told and told[-1] == 0:
        told.pop()
    return told


def sign_raised(prime, bottom, many):
    """The sign raised so often, less what the bottom, turned end to end, goes into it."""
    degree = len(bottom) - 1
    told = [1] + [0] * degree
    for bit in f"{many:b}":
        square = [0] * (2 * degree + 1)
        for first in range(degree):
            for second in range(degree):
                square[first + second] += told[first] * told[second]
        if bit == "1":
            square = [0] + square[:-1]
        for place in reversed(range(degree, len(square))):
            for back in range(1, degree + 1):
                square[place - back] -= square[place] % prime * bottom[back]
            square[place] = 0
        told = [number % prime for number in square[:degree]] + [0]
    return told[:degree]


def slow_far_place(prime, rule, at):
    """The rest at a place behind place 8, from the places 8 and on alone."""
    if len(rule[1]) == 1:
        return 0
    ahead = slow_opened(prime, rule, 16)
    return sum(share * rest for share, rest in zip(sign_raised(prime, rule[1], at - 8), ahead[8:])) % prime


class Opened(unittest.TestCase):
    def test_by_hand(self):
        self.assertEqual(opened(5, ([1], [1, 4]), 4), [1, 1, 1, 1])
        self.assertEqual(opened(7, ([0, 1], [1, 6, 6]), 9), [0, 1, 1, 2, 3, 5, 1, 6, 0])
        self.assertEqual(opened(2, ([1, 1, 1], [1]), 5), [1, 1, 1, 0, 0])
        self.assertEqual(opened(97, ([], [1, 5]), 3), [0, 0, 0])
        self.assertEqual(opened(3, ([2, 0, 1], [1, 1]), 5), [2, 1, 0, 0, 0])

    def test_how_many(self):
        for prime in [2, 7, 97]:
            for rule in rules(prime, many=1):
                whole = opened(prime, rule, 400)
                self.assertEqual(len(whole), 400)
                for many in [0, 1, 2, 7, 8, 9, 15, 16, 17, 399]:
                    self.assertEqual(opened(prime, rule, many), whole[:many])

    def test_the_bottom_times_the_places_comes_to_the_top(self):
        for prime in PRIMES:
            for rule in rules(prime):
                told = opened(prime, rule, 60)
                self.assertEqual(len(told), 60)
                self.assertTrue(all(0 <= rest < prime for rest in told))
                come = []
                for place in range(60):
                    shares = [rest * told[place - back] for back, rest in enumerate(rule[1]) if back <= place]
                    come.append(sum(shares) % prime)
                self.assertEqual(come, (rule[0] + [0] * 60)[:60])

    def test_400_places(self):
        for prime in PRIMES:
            for rule in rules(prime, many=0):
                self.assertEqual(opened(prime, rule, 400), slow_opened(prime, rule, 400))


class FarPlace(unittest.TestCase):
    def test_by_hand(self):
        self.assertEqual(far_place(7, ([0, 1], [1, 6, 6]), 7), 6)
        self.assertEqual(far_place(5, ([1], [1, 3]), 10 ** 30), 1)
        self.assertEqual(far_place(5, ([1], [1, 3]), 10 ** 30 + 1), 2)
        self.assertEqual(far_place(5, ([4, 3], [1]), 0), 4)
        self.assertEqual(far_place(5, ([4, 3], [1]), 1), 3)
        self.assertEqual(far_place(5, ([4, 3], [1]), 2), 0)
        self.assertEqual(far_place(5, ([], [1]), 0), 0)

    def test_near_places(self):
        for prime in PRIMES:
            for rule in rules(prime, many=1):
                places = slow_opened(prime, rule, 400)
                for at in [0, 1, 2, 6, 7, 8, 9, 10, 15, 16, 63, 64, 399]:
                    self.assertEqual(far_place(prime, rule, at), places[at])

    def test_each_near_place(self):
        for prime in [2, 3, 97]:
            for rule in rules(prime, many=1):
                places = slow_opened(prime, rule, 100)
                self.assertEqual([far_place(prime, rule, at) for at in range(100)], places)

    def test_places_some_way_off(self):
        for prime in [2, 3, 5]:
            for rule in rules(prime, many=1):
                places = slow_opened(prime, rule, 3000)
                for at in [1023, 1024, 2047, 2999]:
                    self.assertEqual(far_place(prime, rule, at), places[at])

    def test_far_places(self):
        for prime in PRIMES:
            for rule in rules(prime, many=1)[1::2]:
                for at in FAR[:3:2]:
                    told = far_place(prime, rule, at)
                    self.assertTrue(0 <= told < prime)
                    self.assertEqual(told, slow_far_place(prime, rule, at))

    def test_as_the_places_ahead_and_the_bottom_ask(self):
        for prime in [2, 3, 5, 7, 31, 97]:
            for top, bottom in rules(prime, many=1)[1::2]:
                for start in [10 ** 30, 10 ** 100]:
                    places = [far_place(prime, (top, bottom), start + turn) for turn in range(9)]
                    for at in (7, 8):
                        self.assertEqual(sum(rest * places[at - back] for back, rest in enumerate(bottom)) % prime, 0)

    def test_powers_of_a_rest(self):
        for prime in PRIMES:
            for rest in {1, 2 % prime, prime - 1, prime // 2}:
                for at in FAR:
                    self.assertEqual(far_place(prime, ([1], [1, -rest % prime]), at), pow(rest, at, prime))

    def test_one_factor_seven_times(self):
        for prime in PRIMES:
            bottom = [math.comb(7, power) * (-1) ** power % prime for power in range(8)]
            for at in FAR:
                self.assertEqual(far_place(prime, ([1], bottom), at), math.comb(at + 6, 6) % prime)
                self.assertEqual(far_place(prime, ([0] * 7 + [1], bottom), at), math.comb(at - 1, 6) % prime)

    def test_a_row_that_ends(self):
        for prime in PRIMES:
            for at in FAR + [8, 9]:
                self.assertEqual(far_place(prime, ([1] * 8, [1]), at), 0)
                self.assertEqual(far_place(prime, ([], [1] * 8), at), 0)

    def test_places_of_thousands_of_digits(self):
        for prime in PRIMES:
            for extra in [0, 1, 7]:
                at = 10 ** 20000 + extra
                self.assertEqual(far_place(prime, ([0, 1], [1, -2 % prime, 1]), at), at % prime)
                self.assertEqual(far_place(prime, ([1] * 8, [1] + [0] * 6 + [prime - 1]), at), 2 if at % 7 == 0 else 1)


class Unalike(unittest.TestCase):
    def check(self, prime, one, other):
        """The answer must be what the tops times the other's bottoms and the places themselves tell."""
        told = alike(prime, one, other)
        same = multiplied(prime, one[0], other[1]) == multiplied(prime, other[0], one[1])
        one_row, other_row = slow_opened(prime, one, 40), slow_opened(prime, other, 40)
        if same:
            self.assertIs(type(told), Alike)
            self.assertEqual(one_row, other_row)
        else:
            self.assertIs(type(told), Unlike)
            self.assertIs(type(told.at), int)
            self.assertEqual(one_row[:told.at], other_row[:told.at])
            self.assertNotEqual(one_row[told.at], other_row[told.at])
        self.assertIs(told.shows(prime, one, other), True)
        return told

    def test_by_hand(self):
        self.assertIs(type(alike(5, ([1], [1, 4]), ([1, 1], [1, 0, 4]))), Alike)
        self.assertIs(type(alike(5, ([], [1]), ([0, 0], [1, 2, 3]))), Alike)
        self.assertIs(type(alike(5, ([1, 2], [1, 2]), ([1], [1]))), Alike)
        self.assertEqual(alike(5, ([1], [1]), ([2], [1])).at, 0)
        self.assertEqual(alike(5, ([1], [1]), ([], [1])).at, 0)
        self.assertEqual(alike(5, ([1, 1], [1]), ([1], [1, 4])).at, 2)

    def test_all_pairs(self):
        for prime in PRIMES:
            some = rules(prime, many=1)
            for one in some:
                for other in some:
                    self.check(prime, one, other)

    def test_with_a_factor_in_common(self):
        for prime in PRIMES:
            for top, bottom in rules(prime):
                for factor in [[1], [1, 1], [1, 0, prime - 1], [1] + [prime - 1] * 3]:
                    wide = (multiplied(prime, top, factor), multiplied(prime, bottom, factor))
                    if len(wide[0]) <= 8 and len(wide[1]) <= 8:
                        self.assertIs(type(self.check(prime, (top, bottom), wide)), Alike)
                        self.assertIs(type(self.check(prime, wide, (top, bottom))), Alike)

    def test_with_ends_of_nothing_but_0(self):
        for prime in PRIMES:
            for top, bottom in rules(prime):
                wide = ((top + [0] * 8)[:8], (bottom + [0] * 8)[:8])
                self.assertIs(type(self.check(prime, (top, bottom), wide)), Alike)

    def test_unlike_at_each_place(self):
        for prime in PRIMES:
            for power in range(8):
                for turn in range(1, 8):
                    one = ([0] * power + [1], [1] + [0] * (turn - 1) + [prime - 1])
                    other = ([0] * power + [1], [1])
                    self.assertEqual(self.check(prime, one, other).at, power + turn)
                    self.assertEqual(self.check(prime, other, one).at, power + turn)

    def test_few_rests(self):
        some = [([], [1]), ([1], [1]), ([0, 1], [1]), ([1, 1], [1]), ([1], [1, 1]), ([0, 1], [1, 1]), ([1, 1], [1, 1])]
        for one in some:
            for other in some:
                self.check(2, one, other)


class Refused(unittest.TestCase):
    def test_no_prime(self):
        rule = ([1], [1, 1])
        for prime in NO_PRIMES:
            self.assertEqual(refusal(opened, prime, rule, 3), BadPrime)
            self.assertEqual(refusal(far_place, prime, rule, 3), BadPrime)
            self.assertEqual(refusal(alike, prime, rule, rule), BadPrime)

    def test_no_rule(self):
        right = ([1], [1, 1])
        for prime in [2, 5, 97]:
            for wrong in no_rules(prime):
                self.assertEqual(refusal(opened, prime, wrong, 3), BadRule)
                self.assertEqual(refusal(opened, prime, wrong, 0), BadRule)
                self.assertEqual(refusal(far_place, prime, wrong, 0), BadRule)
                self.assertEqual(refusal(far_place, prime, wrong, 10 ** 30), BadRule)
                self.assertEqual(refusal(alike, prime, wrong, right), BadRule)
                self.assertEqual(refusal(alike, prime, right, wrong), BadRule)
                self.assertEqual(refusal(alike, prime, wrong, wrong), BadRule)

    def test_rules_of_each_length(self):
        for top_length in range(9):
            for bottom_length in range(1, 9):
                rule = ([1] * top_length, [1] * bottom_length)
                self.assertIsNone(refusal(opened, 2, rule, 3))
                self.assertIsNone(refusal(far_place, 2, rule, 3))
                self.assertIsNone(refusal(alike, 2, rule, rule))

    def test_no_count(self):
        for prime in [2, 5, 97]:
            for rule in [([], [1]), ([1], [1]), ([1] * 8, [1] * 8)]:
                for many in NO_COUNTS:
                    self.assertEqual(refusal(opened, prime, rule, many), BadCount)
                    self.assertEqual(refusal(far_place, prime, rule, many), BadCount)
                for many in [401, 402, 1000, 10 ** 20, 10 ** 5000]:
                    self.assertEqual(refusal(opened, prime, rule, many), BadCount)
                for many in [0, 1, 400]:
                    self.assertIsNone(refusal(opened, prime, rule, many))

    def test_what_goes_first(self):
        self.assertEqual(refusal(opened, 9, ([9], [9]), -1), BadPrime)
        self.assertEqual(refusal(opened, 9, ([1], [1]), -1), BadPrime)
        self.assertEqual(refusal(opened, 5, ([5], [1]), -1), BadRule)
        self.assertEqual(refusal(opened, 5, ([5], [1]), 401), BadRule)
        self.assertEqual(refusal(far_place, True, None, None), BadPrime)
        self.assertEqual(refusal(far_place, 9, ([1], [1]), -1), BadPrime)
        self.assertEqual(refusal(far_place, 5, ([1], [2]), True), BadRule)
        self.assertEqual(refusal(alike, 9, [], ([9], [9])), BadPrime)
        self.assertEqual(refusal(alike, 1, ([1], [1]), None), BadPrime)


if __name__ == "__main__":
    unittest.main()
