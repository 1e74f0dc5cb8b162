"""The interface: each name in its file, with the arguments under the names that the document gives them."""

import importlib
import inspect
import unittest

FUNCTIONS = {
    "rows": {"plus": "prime one other", "times": "prime one other", "parted": "prime one other"},
    "inside": {"put_in": "prime outer inner", "turned_out": "prime row"},
    "roots": {"raised": "prime row many", "root": "prime row"},
    "rules": {"opened": "prime rule many", "far_place": "prime rule at", "alike": "prime one other"},
    "finding": {"tapped": "prime places many"},
    "own": {"grown": "prime terms many"},
}
ANSWERS = {"Alike": "", "Unlike": "at", "Ruled": "taps", "Barred": "weights"}
SHOWS = {
    "Alike": "self prime one other", "Unlike": "self prime one other",
    "Ruled": "self prime places many", "Barred": "self prime places many",
}


def arguments(call):
    told = inspect.signature(call).parameters.values()
    return [(each.name, each.kind, each.default) for each in told]


def plain(names):
    kind = inspect.Parameter.POSITIONAL_OR_KEYWORD
    return [(name, kind, inspect.Parameter.empty) for name in names.split()]


class Interface(unittest.TestCase):
    def test_functions(self):
        for name, wanted in FUNCTIONS.items():
            module = importlib.import_module(f"powerrows.{name}")
            for function, names in wanted.items():
                with self.subTest(function):
                    call = getattr(module, function)
                    self.assertTrue(inspect.isfunction(call))
                    self.assertEqual(call.__module__, f"powerrows.{name}")
                    self.assertEqual(arguments(call), plain(names))

    def test_answers(self):
        module = importlib.import_module("powerrows.answers")
        for name, fields in ANSWERS.items():
            with self.subTest(name):
                kind = getattr(module, name)
                self.assertEqual(arguments(kind), plain(fields))
                self.assertEqual(arguments(vars(kind)["shows"]), plain(SHOWS[name]))

    def test_arguments_by_name(self):
        from powerrows.answers import Barred, Ruled, Unlike
        from powerrows.rules import alike, opened
        self.assertEqual(opened(prime=5, rule=([1], [1, 4]), many=2), [1, 1])
        told = alike(prime=5, one=([1], [1]), other=([2], [1]))
        self.assertIs(told.shows(prime=5, one=([1], [1]), other=([2], [1])), True)
        self.assertEqual(Unlike(at=3).at, 3)
        self.assertIs(Ruled(taps=[2]).shows(prime=5, places=[1, 2], many=1), True)
        self.assertIs(Barred(weights=[1]).shows(prime=5, places=[0, 2], many=1), True)


if __name__ == "__main__":
    unittest.main()
