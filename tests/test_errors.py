"""The refusals of the interface (points 2, 3 and the document's end)."""

import unittest

from beatless import errors
from beatless.wholes import is_whole

NAMES = [
    "NoWeb", "NoHand", "NoProgram", "NoText", "NoWay", "NoLetter",
    "NoRound", "Fallen", "NoLine", "NoWorld", "NoDeed",
]


class Refusals(unittest.TestCase):
    def test_the_base_stands_right_under_value_error(self):
        self.assertEqual(errors.BeatlessError.__bases__, (ValueError,))

    def test_each_stands_right_under_the_base(self):
        for name in NAMES:
            with self.subTest(name):
                self.assertEqual(getattr(errors, name).__bases__, (errors.BeatlessError,))

    def test_all_are_there_and_no_others(self):
        found = [name for name, value in vars(errors).items() if isinstance(value, type)]
        self.assertEqual(sorted(found), sorted(NAMES + ["BeatlessError"]))

    def test_row_and_at(self):
        self.assertEqual(errors.NoText(3).row, 3)
        self.assertEqual(errors.NoText(row=0).row, 0)
        self.assertEqual(errors.NoDeed(4999).at, 4999)
        self.assertEqual(errors.NoDeed(at=0).at, 0)

    def test_the_others_bear_no_value(self):
        for name in NAMES:
            if name not in ("NoText", "NoDeed"):
                with self.subTest(name):
                    self.assertEqual(vars(getattr(errors, name)("words")), {})
        self.assertEqual(vars(errors.NoText(2)), {"row": 2})
        self.assertEqual(vars(errors.NoDeed(2)), {"at": 2})


class Wholes(unittest.TestCase):
    def test_ints_are_whole(self):
        for value in (0, 1, -1, 10 ** 20, -10 ** 5000):
            self.assertIs(is_whole(value), True)

    def test_truths_and_others_are_not(self):
        for value in (True, False, None, 1.0, "1", [1], (1,), {}, int):
            self.assertIs(is_whole(value), False)


if __name__ == "__main__":
    unittest.main()
