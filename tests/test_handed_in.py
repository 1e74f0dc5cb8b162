"""Point 1: nothing handed in is kept or changed, and each list told is the asker's own."""

import copy
import unittest

from powerrows.answers import Alike, Barred, Ruled, Unlike
from powerrows.finding import tapped
from powerrows.inside import put_in, turned_out
from powerrows.own import grown
from powerrows.roots import raised, root
from powerrows.rows import parted, plus, times
from powerrows.rules import alike, far_place, opened

CALLS = [
    (plus, 7, [0, 1, 6], [0, 0, 0]),
    (plus, 7, [0, 0, 0], [4, 1, 6]),
    (times, 7, [3, 1, 6], [1, 0, 0]),
    (times, 7, [1, 0, 0], [3, 1, 6]),
    (parted, 7, [3, 1, 6], [1, 0, 0]),
    (parted, 7, [3, 1, 6, 2], [5, 1]),
    (put_in, 7, [3, 1, 6], [0, 1, 0]),
    (put_in, 7, [0, 1, 0], [0, 1, 6]),
    (put_in, 7, [4], [0]),
    (turned_out, 7, [0, 1, 0, 0]),
    (turned_out, 7, [0, 3, 1, 6]),
    (raised, 7, [3, 1, 6], 0),
    (raised, 7, [3, 1, 6], 1),
    (raised, 7, [0, 1, 6], 1),
    (raised, 7, [1, 0, 0], 5),
    (root, 7, [1, 0, 0]),
    (root, 7, [4, 1, 6]),
    (opened, 7, ([3, 1, 6], [1]), 3),
    (opened, 7, ([3, 1, 6], [1]), 2),
    (opened, 7, ([3, 1, 6], [1, 5, 0, 2]), 9),
    (opened, 7, ([], [1]), 0),
    (opened, 7, ([], [1]), 400),
    (far_place, 7, ([3, 1, 6], [1]), 0),
    (far_place, 7, ([3, 1, 6], [1]), 1),
    (far_place, 7, ([3, 1, 6], [1, 5, 0, 2]), 10 ** 30),
    (alike, 7, ([3, 1, 6], [1]), ([3, 1, 6, 0], [1])),
    (alike, 7, ([3, 1, 6], [1]), ([3, 1, 5], [1])),
    (alike, 7, ([], [1]), ([1], [1, 2, 3])),
    (tapped, 7, [0, 1, 1, 2, 3, 5, 1, 6], 2),
    (tapped, 7, [3, 1], 2),
    (tapped, 7, [], 8),
    (tapped, 7, [], 0),
    (tapped, 7, [1], 0),
    (tapped, 7, [0, 1, 1, 2, 3, 5, 1, 0], 2),
    (tapped, 7, [0, 0, 1, 0], 1),
    (grown, 7, [(3, 1, 0), (1, 2, 2)], 9),
    (grown, 7, [(3, 1, 0)], 1),
    (grown, 7, [(1, 1, 1)] * 6, 20),
]
FIELDS = {Alike: {}, Unlike: {"at": int}, Ruled: {"taps": list}, Barred: {"weights": list}}


def calls():
    """The calls with lists of their own, for tests that change them."""
    return copy.deepcopy(CALLS)


def lists_in(told):
    """The lists that were told, also as fields of an answer."""
    if type(told) in FIELDS:
        return [thing for thing in vars(told).values() if isinstance(thing, list)]
    return [told] if isinstance(told, list) else []


def seen(told):
    """What was told, in a form that can be compared."""
    return (type(told), copy.deepcopy(vars(told))) if type(told) in FIELDS else copy.deepcopy(told)


def spoil(thing):
    """Change every list that was handed in."""
    if isinstance(thing, (list, tuple)):
        for part in thing:
            spoil(part)
    if isinstance(thing, list):
        thing.append(99)
        thing[0] = 99


class HandedIn(unittest.TestCase):
    def test_nothing_handed_in_is_changed(self):
        for call, *handed in calls():
            with self.subTest(call=call, handed=handed):
                before = copy.deepcopy(handed)
                call(*handed)
                self.assertEqual(handed, before)

    def test_the_kinds_of_what_is_told(self):
        for call, *handed in calls():
            with self.subTest(call=call, handed=handed):
                told = call(*handed)
                if type(told) in FIELDS:
                    kinds = {name: type(thing) for name, thing in vars(told).items()}
                    self.assertEqual(kinds, FIELDS[type(told)])
                else:
                    self.assertIs(type(told), int if call is far_place else list)
                for numbers in lists_in(told):
                    self.assertTrue(all(type(number) is int for number in numbers))

    def test_each_kind_of_answer_is_among_them(self):
        self.assertEqual({type(call(*handed)) for call, *handed in calls()}, {*FIELDS, list, int})

    def test_the_answer_is_the_askers_own(self):
        for call, *handed in calls():
            with self.subTest(call=call, handed=handed):
                before = copy.deepcopy(handed)
                told = call(*handed)
                first = seen(told)
                spoil(lists_in(told))
                if isinstance(told, Unlike):
                    told.at = 99
                self.assertEqual(handed, before)
                self.assertEqual(seen(call(*handed)), first)

    def test_nothing_handed_in_is_kept(self):
        for call, *handed in calls():
            with self.subTest(call=call, handed=handed):
                told = call(*handed)
                first = seen(told)
                spoil(handed)
                self.assertEqual(seen(told), first)

    def test_the_same_rule_may_be_handed_in_twice(self):
        rule = ([1, 2], [1, 3])
        self.assertIs(type(alike(5, rule, rule)), Alike)
        self.assertEqual(rule, ([1, 2], [1, 3]))
        both = [1, 2]
        self.assertEqual(opened(5, (both, both), 3), [1, 0, 0])
        self.assertEqual(far_place(5, (both, both), 0), 1)
        self.assertEqual(both, [1, 2])

    def test_the_same_row_may_be_handed_in_twice(self):
        row = [0, 3, 1]
        self.assertEqual(plus(5, row, row), [0, 1, 2])
        self.assertEqual(times(5, row, row), [0, 0, 4])
        self.assertEqual(put_in(5, row, row), [0, 4, 2])
        self.assertEqual(row, [0, 3, 1])
        row = [3, 1]
        self.assertEqual(parted(5, row, row), [1, 0])


if __name__ == "__main__":
    unittest.main()
