"""Whole numbers (points [2] and [3])."""

import unittest

from likewebs.wholes import is_whole
from tests.common import Case, things


class Wholes(Case):
    def test_whole_numbers(self):
        for thing in (0, 1, -1, 2, 12, 10 ** 9, 10 ** 9 + 1, 10 ** 40, -10 ** 40):
            self.assertIs(is_whole(thing), True)

    def test_truths_are_none(self):
        self.assertIs(is_whole(True), False)
        self.assertIs(is_whole(False), False)

    def test_anything(self):
        for thing in things():
            self.assertIs(self.call(is_whole, thing), type(thing) is int)


if __name__ == "__main__":
    unittest.main()
