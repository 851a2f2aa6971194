"""Things and their texts (point [54])."""

import itertools
import unittest

from likewebs.errors import NoThing
from likewebs.forms import cover_of
from likewebs.grouping import group_of
from likewebs.namings import stays
from likewebs.seeking import sought
from likewebs.things import DEEP, is_thing, text_of
from likewebs.webs import Web
from tests import oracle
from tests.common import (
    Case, bare, edge_webs, few_things, great_webs, knotty_webs, nested, some_rows, things, told_elsewhere, unlike_pairs,
    variants,
)

GREATEST = 10 ** 9


class Looks(Case):
    def look(self, thing):
        """Sees what is told of anything: whether it is a thing, and its text or the refusal."""
        wanted = oracle.is_thing(thing)
        self.assertIs(self.call(is_thing, thing), wanted)
        if wanted:
            self.same(self.call(text_of, thing), oracle.text(thing))
        else:
            self.refused(NoThing, {}, text_of, thing)
        return wanted


class Numbers(Looks):
    def test_ordinary(self):
        for number in (0, 1, 7, 9, 10, 42, 100, 999999999, GREATEST):
            self.assertIs(is_thing(number), True)
            self.same(text_of(number), str(number))
        self.same(text_of(0), "0")
        self.same(text_of(GREATEST), "1000000000")

    def test_no_things(self):
        for thing in (-1, GREATEST + 1, -GREATEST, 10 ** 40, -10 ** 40, 10 ** 5000, True, False, 1.0, 0.5):
            self.assertIs(is_thing(thing), False)
            self.refused(NoThing, {}, text_of, thing)


class Words(Looks):
    def test_how_many_letters(self):
        for many in range(12):
            for letter in "amz":
                self.assertIs(self.look(letter * many), 1 <= many <= 8)
        self.same(text_of("abcdefgh"), "abcdefgh")
        self.same(text_of("none"), "none")

    def test_every_sign(self):
        for number in range(1200):
            sign = chr(number)
            for text in (sign, "a" + sign, sign + "a", "a" + sign + "a"):
                self.assertIs(self.look(text), 97 <= number <= 122)

    def test_other_letters(self):
        for text in ("A", "aB", "\u00e4", "\u00df", "\u0430", "\uff41", "a b", " a", "a ", "a\n", "(a)", "()", "0", "a0",
                     "12", "a" * 20000):
            self.assertIs(self.look(text), False)


class Tuples(Looks):
    def test_ordinary(self):
        self.same(text_of(()), "()")
        self.same(text_of((0,)), "(0)")
        self.same(text_of(("a",)), "(a)")
        self.same(text_of((1, 2)), "(1 2)")
        self.same(text_of(((),)), "(())")
        self.same(text_of(((), ())), "(() ())")
        self.same(text_of(("put", "a", (0, 5), ((0, 1, 7),))), "(put a (0 5) ((0 1 7)))")
        self.same(text_of((((1,), 2), "x", ((3, ()),))), "(((1) 2) x ((3 ())))")
        self.same(text_of((10, 0, 1000000000)), "(10 0 1000000000)")

    def test_of_a_thousand_things(self):
        self.same(text_of((0,) * 1000), "(" + " ".join("0" * 1000) + ")")
        self.assertTrue(self.look(tuple(range(1000))))
        self.assertFalse(self.look(tuple(range(999)) + (None,)))

    def test_how_many_within_one_another(self):
        self.same(DEEP, 60)
        for deep in (1, 2, 59, 60, 61, 62, 80):
            for inner, right in (((), True), ((0,), True), (("a",), True), ((1, 2), True), ((None,), False),
                                 ((True,), False)):
                thing = inner
                for _ in range(deep - 1):
                    thing = (thing,)
                self.assertIs(self.look(thing), right and deep <= 60)
                for beside_it in ((thing, 0), ("a", thing), (thing, thing)):
                    self.look(beside_it)
        self.same(text_of(nested(tuple, 60)), "(" * 60 + ")" * 60)
        self.refused(NoThing, {}, text_of, nested(tuple, 61))
        # Far more than are promised.
        self.assertIs(is_thing(nested(tuple, 5000)), False)

    def test_lists_and_truths(self):
        for thing in ([], [0], [()], ([],), ((), []), ((([0],),),), (True,), (0, False), ((1, (True, 2)),), {}, ({},),
                      None, (None,), ("a", None), Web(()), (Web((0,)),), (0, (1, (Web(()),)))):
            self.assertIs(self.look(thing), False)
        self.assertIs(self.look(nested(list, 3)), False)


class Anything(Looks):
    def test_things(self):
        for thing in things():
            self.look(thing)
            self.look((thing,))
            self.look((0, (thing, "a")))
            self.look([thing])

    def test_at_every_place_and_depth(self):
        odd = few_things() + ["a", "abcdefgh", "abcdefghi", GREATEST, -0, "A"]
        for thing in ((), (0,), ("a", (1, ("b", ())), 2), ((0, 0), ((0, 1, 5), (1, 0, 7))), ((((((3,),),),),),)):
            self.assertTrue(self.look(thing))
            for other in variants(thing, odd):
                self.look(other)

    def test_all_of_few_parts(self):
        atoms = [0, GREATEST, "z", (), None, True, -1, [], "Z"]
        for one, other in itertools.product(atoms, repeat=2):
            for thing in ((one, other), ((one,), other), (one, (other,)), [one, other], ((one, other),)):
                self.look(thing)

    def test_no_two_things_have_one_text(self):
        atoms = [0, 1, 10, "a", "ab", (), (0,), (1, 0), ("a", "b"), ((),), ((0,), 1), (0, (1,))]
        told = atoms + list(itertools.product(atoms, repeat=2)) + [(one,) for one in atoms]
        self.assertEqual(len({text_of(thing) for thing in told}), len(set(told)))


class WhatIsTold(Looks):
    """Rows, namings, papers, covers and groups are things."""

    def test_papers_and_the_like(self):
        for web in edge_webs() + knotty_webs():
            for row in some_rows(len(web))[:3]:
                for thing in (row, stays(len(web)), cover_of(web, row), group_of(web, row), (web.colours, web.arrows)):
                    self.assertTrue(self.look(thing))
        for one, other in unlike_pairs():
            self.assertTrue(self.look(sought(one, (), other, ())))

    def test_the_deepest(self):
        for web in great_webs():
            self.assertTrue(self.look((group_of(web), cover_of(web))))
        self.assertGreater(oracle.deep(cover_of(bare(12))), 30)


class TheSameEachTime(Case):
    def test_in_another_run(self):
        told = told_elsewhere(
            "from likewebs.things import text_of",
            "from likewebs.grouping import group_of",
            "for web in knotty_webs():",
            "    print(text_of(group_of(web)))",
        )
        self.assertEqual(told[0], told[1])
        self.assertTrue(told[0])


if __name__ == "__main__":
    unittest.main()
