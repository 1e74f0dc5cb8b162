"""Point 1: nothing handed in is kept or changed, and each list told is the asker's own."""

import copy
import unittest

from powerrows.inside import put_in, turned_out
from powerrows.roots import raised, root
from powerrows.rows import parted, plus, times

CALLS = [
    (plus, 7, [0, 1, 6], [0, 0, 0]),
    (plus, 7, [0, 0, 0], [4, 1, 6]),
    (times, 7, [3, 1, 6], [1, 0, 0]),
    (times, 7, [1, 0, 0], [3, 1, 6]),
    (parted, 7, [3, 1, 6], [1, 0, 0]),
    (parted, 7, [3, 1, 6, 2], [5, 1]),
    (put_in, 7, [3, 1, 6], [0, 1, 0]),
    (put_in, 7, [0, 1, 0], [0, 1, 6]),
    (put_in, 7, [4], [0]),
    (turned_out, 7, [0, 1, 0, 0]),
    (turned_out, 7, [0, 3, 1, 6]),
    (raised, 7, [3, 1, 6], 0),
    (raised, 7, [3, 1, 6], 1),
    (raised, 7, [0, 1, 6], 1),
    (raised, 7, [1, 0, 0], 5),
    (root, 7, [1, 0, 0]),
    (root, 7, [4, 1, 6]),
]


def calls():
    """The calls with lists of their own, for tests that change them."""
    return copy.deepcopy(CALLS)


class HandedIn(unittest.TestCase):
    def test_nothing_handed_in_is_changed(self):
        for call, *handed in calls():
            with self.subTest(call=call, handed=handed):
                before = copy.deepcopy(handed)
                call(*handed)
                self.assertEqual(handed, before)

    def test_what_is_told_is_a_list_of_numbers(self):
        for call, *handed in calls():
            with self.subTest(call=call, handed=handed):
                told = call(*handed)
                self.assertIs(type(told), list)
                self.assertTrue(all(type(rest) is int for rest in told))

    def test_the_answer_is_the_askers_own(self):
        for call, *handed in calls():
            with self.subTest(call=call, handed=handed):
                before = copy.deepcopy(handed)
                told = call(*handed)
                first = list(told)
                told[0] = 99
                told.append(99)
                self.assertEqual(handed, before)
                self.assertEqual(call(*handed), first)

    def test_nothing_handed_in_is_kept(self):
        for call, *handed in calls():
            with self.subTest(call=call, handed=handed):
                told = call(*handed)
                first = list(told)
                for thing in handed:
                    if isinstance(thing, list):
                        thing[0] = 99
                        thing.append(99)
                self.assertEqual(told, first)

    def test_the_same_row_may_be_handed_in_twice(self):
        row = [0, 3, 1]
        self.assertEqual(plus(5, row, row), [0, 1, 2])
        self.assertEqual(times(5, row, row), [0, 0, 4])
        self.assertEqual(put_in(5, row, row), [0, 4, 2])
        self.assertEqual(row, [0, 3, 1])
        row = [3, 1]
        self.assertEqual(parted(5, row, row), [1, 0])


if __name__ == "__main__":
    unittest.main()
