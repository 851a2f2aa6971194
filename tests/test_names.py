"""Names and their refusals (points [48] and [49])."""

import unittest

from likewebs.errors import NoName, Taken
from likewebs.names import check_known, check_new, is_name
from tests.common import Case, bare, few_things, things, variants

RIGHT = ["a", "z", "ab", "aa", "abcdefgh", "zzzzzzzz", "mnopqrst", "house"]
WRONG = [
    "", "abcdefghi", "a" * 9, "a" * 20000, "A", "aB", "Web", "a b", " a", "a ", "a\n", "\n", "a1", "1", "0", "a_b", "_",
    "a-b", "\u00e4", "\u00df", "\u0430", "\u00aa", "a\u0301", "\x00", "a\x00", "`", "{", "none ", "(a)",
]


class IsName(Case):
    def test_right(self):
        for thing in RIGHT + list("abcdefghijklmnopqrstuvwxyz"):
            self.assertIs(is_name(thing), True)

    def test_wrong(self):
        for thing in WRONG + [["a"], ("a",), {"a": "a"}, b"a", None, True, 1, 10 ** 40, bare(1)]:
            self.assertIs(is_name(thing), False)

    def test_every_sign(self):
        for number in range(2000):
            sign = chr(number)
            for text in (sign, "a" + sign, sign + "a"):
                self.assertIs(is_name(text), 97 <= number <= 122)

    def test_anything(self):
        for thing in things() + list(variants(["ab", ("ab",)], few_things())):
            self.assertIs(self.call(is_name, thing), isinstance(thing, str) and thing in ("ab",))


class Checks(Case):
    WEBS = {"a": bare(1), "abcdefgh": bare(2)}

    def test_granted(self):
        for name in self.WEBS:
            self.assertIs(self.call(check_known, self.WEBS, name), None)
        for name in ("b", "abcdefg", "zzzzzzzz"):
            self.assertIs(self.call(check_new, self.WEBS, name), None)
            self.assertIs(self.call(check_new, {}, name), None)

    def test_refused(self):
        for name in ("b", "abcdefg", "zzzzzzzz"):
            self.refused(NoName, {"name": name}, check_known, self.WEBS, name)
            self.refused(NoName, {"name": name}, check_known, {}, name)
        for name in self.WEBS:
            self.refused(Taken, {"name": name}, check_new, self.WEBS, name)

    def test_anything_that_is_no_name(self):
        for thing in things() + WRONG:
            if thing != "ab":
                self.refused(NoName, {"name": thing}, check_known, self.WEBS, thing)
                self.refused(NoName, {"name": thing}, check_new, self.WEBS, thing)


if __name__ == "__main__":
    unittest.main()
