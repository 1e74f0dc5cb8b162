"""Points 7 and 8: what the answers say of themselves, by their fields as they stand."""

import itertools
import unittest

from powerrows import answers
from powerrows.answers import Alike, Answer, Barred, Ruled, Unlike
from powerrows.finding import tapped
from powerrows.rules import alike
from tests.samples import PRIMES, rules, slow_opened

NO_PLACES = [-1, -2, -15, -10 ** 20, -10 ** 5000, 15, 16, 400, 10 ** 20, 10 ** 5000]
FIBONACCI = [0, 1, 1, 2, 3, 5, 1, 6]


def first_unlike(prime, one, other):
    pairs = zip(slow_opened(prime, one, 40), slow_opened(prime, other, 40))
    unlike = [at for at, (rest, same) in enumerate(pairs) if rest != same]
    return unlike[0] if unlike else None


class Classes(unittest.TestCase):
    def test_straight_under_answer(self):
        self.assertEqual(Answer.__bases__, (object,))
        for kind in [Alike, Unlike, Ruled, Barred]:
            self.assertEqual(kind.__bases__, (Answer,))
            self.assertIn("shows", vars(kind))
            self.assertEqual(kind.__module__, answers.__name__)
        self.assertEqual(set(Answer.__subclasses__()), {Alike, Unlike, Ruled, Barred})

    def test_fields(self):
        self.assertEqual(vars(Alike()), {})
        for at in [0, 5, -3, 10 ** 30]:
            self.assertEqual(vars(Unlike(at)), {"at": at})
        for numbers in [[], [0], [1, 2, 3], [-5, 10 ** 30], [0] * 400]:
            self.assertEqual(vars(Ruled(numbers)), {"taps": numbers})
            self.assertEqual(vars(Barred(numbers)), {"weights": numbers})

    def test_lists_are_copied(self):
        numbers = [1, 2]
        ruled, barred = Ruled(numbers), Barred(numbers)
        numbers[0] = 9
        numbers.append(9)
        self.assertEqual(ruled.taps, [1, 2])
        self.assertEqual(barred.weights, [1, 2])
        other = Ruled(ruled.taps)
        other.taps.append(7)
        self.assertEqual(ruled.taps, [1, 2])
        other = Barred(barred.weights)
        other.weights.append(7)
        self.assertEqual(barred.weights, [1, 2])


class OfRules(unittest.TestCase):
    def test_made_by_hand(self):
        for prime in PRIMES[::3]:
            some = rules(prime, many=1)
            for one in some:
                for other in some:
                    first = first_unlike(prime, one, other)
                    self.assertIs(Alike().shows(prime, one, other), first is None)
                    for at in range(15):
                        self.assertIs(Unlike(at).shows(prime, one, other), at == first)

    def test_places_that_cannot_be(self):
        for one, other in [(([1], [1]), ([1], [1])), (([1], [1]), ([2], [1])), (([], [1]), ([0], [1, 3]))]:
            for at in NO_PLACES:
                self.assertIs(Unlike(at).shows(5, one, other), False)

    def test_the_last_place_that_can_be(self):
        one, other = ([0] * 7 + [1], [1] + [0] * 6 + [4]), ([0] * 7 + [1], [1])
        self.assertIs(Unlike(14).shows(5, one, other), True)
        self.assertIs(Alike().shows(5, one, other), False)
        for at in list(range(14)) + NO_PLACES:
            self.assertIs(Unlike(at).shows(5, one, other), False)

    def test_by_the_field_as_it_stands(self):
        one, other = ([1, 1], [1]), ([1], [1, 4])
        told = alike(5, one, other)
        self.assertIs(told.shows(5, one, other), True)
        told.at = 3
        self.assertIs(told.shows(5, one, other), False)
        told.at = -2
        self.assertIs(told.shows(5, one, other), False)
        told.at = 2
        self.assertIs(told.shows(5, one, other), True)

    def test_asked_of_other_rules(self):
        told = alike(5, ([1, 1], [1]), ([1], [1, 4]))
        self.assertIs(told.shows(5, ([1, 1], [1]), ([1, 1], [1])), False)
        self.assertIs(told.shows(3, ([1, 1], [1]), ([1], [1, 2])), True)
        told = alike(3, ([1], [1]), ([1, 1], [1, 1]))
        self.assertIs(told.shows(3, ([1], [1]), ([1, 1], [1, 2])), False)
        self.assertIs(told.shows(5, ([2], [1]), ([2, 2], [1, 1])), True)


class OfTaps(unittest.TestCase):
    def test_all_taps(self):
        for prime, lengths in [(2, (0, 1, 2, 3, 5)), (3, (0, 1, 3, 4))]:
            for length in lengths:
                for places in itertools.product(range(prime), repeat=length):
                    for many in range(4):
                        self.check_all_taps(prime, list(places), many)

    def check_all_taps(self, prime, places, many):
        some = False
        for taps in itertools.product(range(prime), repeat=many):
            does = True
            for at in range(many, len(places)):
                come = sum(taps[turn] * places[at - 1 - turn] for turn in range(many))
                does = does and come % prime == places[at]
            some = some or does
            self.assertIs(Ruled(list(taps)).shows(prime, places, many), does)
        self.assertIs(type(tapped(prime, places, many)) is Ruled, some)

    def test_all_weights(self):
        for prime, length in [(2, 5), (3, 4)]:
            for places in itertools.product(range(prime), repeat=length):
                for many in range(4):
                    self.check_all_weights(prime, list(places), many)

    def check_all_weights(self, prime, places, many):
        behind = len(places) - many
        some = False
        for weights in itertools.product(range(prime), repeat=behind):
            sums = []
            for distance in range(many + 1):
                sums.append(sum(weights[turn] * places[many + turn - distance] for turn in range(behind)) % prime)
            bars = sums[0] != 0 and sums[1:] == [0] * many
            some = some or bars
            self.assertIs(Barred(list(weights)).shows(prime, places, many), bars)
        self.assertIs(type(tapped(prime, places, many)) is Barred, some)

    def test_taps_by_hand(self):
        self.assertIs(Ruled([1, 1]).shows(7, FIBONACCI, 2), True)
        self.assertIs(Ruled([1, 1]).shows(11, FIBONACCI, 2), False)
        self.assertIs(Ruled([1, 1, 0]).shows(7, FIBONACCI, 3), True)
        self.assertIs(Ruled([0, 2, 1]).shows(7, FIBONACCI, 3), True)
        self.assertIs(Ruled([1, 1]).shows(7, FIBONACCI, 3), False)
        self.assertIs(Ruled([1, 1, 0]).shows(7, FIBONACCI, 2), False)
        self.assertIs(Ruled([1]).shows(7, FIBONACCI, 1), False)
        self.assertIs(Ruled([]).shows(7, FIBONACCI, 0), False)
        self.assertIs(Ruled([]).shows(7, [], 0), True)
        self.assertIs(Ruled([]).shows(7, [0, 0], 0), True)

    def test_a_tap_is_a_rest(self):
        for taps in [[8, 1], [1, 8], [-6, 1], [1, -6], [10 ** 5000, 1], [1, -10 ** 5000]]:
            self.assertIs(Ruled(taps).shows(7, FIBONACCI, 2), False)
        self.assertIs(Ruled([7]).shows(7, [0, 0], 1), False)
        self.assertIs(Ruled([7]).shows(7, [], 1), False)
        self.assertIs(Ruled([-1]).shows(7, [3], 1), False)
        self.assertIs(Ruled([6]).shows(7, [3], 1), True)

    def test_no_place_behind_the_first_so_many(self):
        for length in range(4):
            for many in range(length, 9):
                places = [1] * length
                self.assertIs(Ruled([1] * many).shows(5, places, many), True)
                self.assertIs(Ruled([1] * (many + 1)).shows(5, places, many), False)
                for weights in [[], [0], [1], [1] * many, [1] * (many - length), [1] * 400]:
                    self.assertIs(Barred(weights).shows(5, places, many), False)

    def test_weights_by_hand(self):
        self.assertIs(Barred([1]).shows(5, [0, 1], 1), True)
        self.assertIs(Barred([0]).shows(5, [0, 1], 1), False)
        self.assertIs(Barred([4, 1]).shows(5, [1, 1, 2], 1), True)
        self.assertIs(Barred([1, 4]).shows(5, [1, 1, 2], 1), True)
        self.assertIs(Barred([1, 1]).shows(5, [1, 1, 2], 1), False)
        self.assertIs(Barred([0, 1]).shows(5, [1, 1, 2], 1), False)
        self.assertIs(Barred([3, 1, 2]).shows(5, [0, 1, 0], 0), True)
        self.assertIs(Barred([3, 0, 2]).shows(5, [0, 1, 0], 0), False)

    def test_weights_of_any_sign_and_size(self):
        for extra in [5, -5, 5 * 10 ** 5000, -5 * 10 ** 5000]:
            self.assertIs(Barred([4 + extra, 1]).shows(5, [1, 1, 2], 1), True)
            self.assertIs(Barred([4, 1 - extra]).shows(5, [1, 1, 2], 1), True)
            self.assertIs(Barred([4 + extra + 1, 1]).shows(5, [1, 1, 2], 1), False)
        self.assertIs(Barred([5, 10]).shows(5, [1, 1, 2], 1), False)

    def test_another_number_of_weights(self):
        for wrong in [[], [4], [4, 1, 0], [0, 4, 1], [4, 1] + [0] * 400, [4, 1] + [5] * 1000]:
            self.assertIs(Barred(wrong).shows(5, [1, 1, 2], 1), False)

    def test_another_number_of_taps(self):
        for wrong in [[], [1], [1, 1, 0], [1, 1] + [0] * 400, [-1] * 1000]:
            self.assertIs(Ruled(wrong).shows(7, FIBONACCI, 2), False)

    def test_by_the_fields_as_they_stand(self):
        ruled = tapped(7, FIBONACCI, 2)
        ruled.taps[0] = 2
        self.assertIs(ruled.shows(7, FIBONACCI, 2), False)
        ruled.taps = [1, 1]
        self.assertIs(ruled.shows(7, FIBONACCI, 2), True)
        ruled.taps.append(0)
        self.assertIs(ruled.shows(7, FIBONACCI, 2), False)
        self.assertIs(ruled.shows(7, FIBONACCI, 3), True)
        barred = tapped(5, [1, 1, 2], 1)
        barred.weights[0] += 1
        self.assertIs(barred.shows(5, [1, 1, 2], 1), False)
        barred.weights = [-1, 1]
        self.assertIs(barred.shows(5, [1, 1, 2], 1), True)
        barred.weights.pop()
        self.assertIs(barred.shows(5, [1, 1, 2], 1), False)

    def test_asked_of_other_places(self):
        ruled = tapped(7, FIBONACCI, 2)
        self.assertIs(ruled.shows(7, FIBONACCI[:-1] + [0], 2), False)
        self.assertIs(ruled.shows(7, FIBONACCI[3:], 2), True)
        barred = tapped(5, [0, 1], 1)
        self.assertIs(barred.shows(5, [1, 1], 1), False)
        self.assertIs(barred.shows(5, [0, 1, 0], 1), False)


class NothingChanges(unittest.TestCase):
    def test_by_asking(self):
        one, other = ([1, 1], [1]), ([1], [1, 4])
        for told in [Alike(), Unlike(2)]:
            before = dict(vars(told))
            told.shows(5, one, other)
            self.assertEqual((one, other), (([1, 1], [1]), ([1], [1, 4])))
            self.assertEqual(vars(told), before)
        for told in [Ruled([1, 1]), Barred([3, 1, 4, 1, 5, 9]), Ruled([9, -9]), Barred([])]:
            places = list(FIBONACCI)
            before = {name: list(numbers) for name, numbers in vars(told).items()}
            told.shows(7, places, 2)
            self.assertEqual(places, FIBONACCI)
            self.assertEqual(vars(told), before)


if __name__ == "__main__":
    unittest.main()
