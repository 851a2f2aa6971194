"""Seeking a naming or a paper of no (points [28] and [4])."""

import itertools
import unittest

from likewebs.carrying import carried_row
from likewebs.errors import NoRow
from likewebs.fitting import fits
from likewebs.nopapers import right_no
from likewebs.seeking import fitting, sought
from likewebs.webs import Web, renamed
from tests import oracle
from tests.common import (
    HEXAGON, OTHER_WHEEL, TRIANGLES, WHEEL, Case, all_rows, all_webs, bare, beside, chain, chance, edge_webs, full,
    great_webs, in_time, knotty_webs, ring, small_webs, some_namings, some_rows, some_web, things, told_elsewhere,
    unlike_pairs, variants,
)
from tests.makers import mixed


class Looks(Case):
    def look(self, web, row, other, other_row):
        """Sees that what is told is right, and the same each time; tells its word."""
        told = self.call(sought, web, row, other, other_row)
        self.assertIs(type(told), tuple)
        self.assertEqual(len(told), 2)
        naming = self.call(fitting, web, row, other, other_row)
        if told[0] == "naming":
            self.assertTrue(oracle.fits(web, row, other, other_row, told[1]))
            self.assertIs(fits(web, row, other, other_row, told[1]), True)
            self.same(naming, told[1])
        else:
            self.same(told[0], "no")
            self.assertTrue(oracle.right_no(web, row, other, other_row, told[1]))
            self.assertIs(right_no(web, row, other, other_row, told[1]), True)
            self.assertIs(naming, None)
        self.same(sought(web, row, other, other_row), told)
        return told[0]


class Ordinary(Looks):
    def test_only_one_naming_or_paper(self):
        self.same(sought(Web(()), (), Web(()), ()), ("naming", ()))
        self.same(sought(Web((5,)), (), Web((5,)), ()), ("naming", (0,)))
        self.same(sought(Web((5,)), (0,), Web((5,)), (0,)), ("naming", (0,)))
        self.same(sought(Web((5,)), (), Web((6,)), ()), ("no", ("unlike",)))
        self.same(sought(Web(()), (), Web((6,)), ()), ("no", ("unlike",)))
        self.same(sought(Web((0, 5), ((1, 0, 7),)), (), Web((5, 0), ((0, 1, 7),)), ()), ("naming", (1, 0)))
        self.same(sought(chain(3), (), renamed(chain(3), (2, 0, 1)), ()), ("naming", (2, 0, 1)))
        self.same(sought(ring(3), (0,), ring(3), (1,)), ("naming", (1, 2, 0)))
        self.same(sought(bare(12), tuple(range(12)), bare(12), tuple(range(12))[::-1])[1], tuple(range(12))[::-1])
        self.same(fitting(ring(3), (2,), ring(3), (1,)), (2, 0, 1))
        self.assertIs(fitting(ring(3), (2,), ring(3), ()), None)

    def test_rows_of_unlike_lengths(self):
        for web in (bare(3), ring(3), chain(3), WHEEL):
            for row, other_row in itertools.product(some_rows(len(web)), repeat=2):
                if len(row) != len(other_row):
                    self.same(self.look(web, row, web, other_row), "no")

    def test_webs_of_unlike_sizes(self):
        for one, other in itertools.permutations((Web(()), Web((0,)), bare(2), bare(11), bare(12), full(12)), 2):
            self.same(self.look(one, (), other, ()), "no")

    def test_a_naming_of_the_webs_but_not_of_the_rows(self):
        self.same(self.look(beside(ring(3), ring(4)), (0,), beside(ring(3), ring(4)), (3,)), "no")
        self.same(self.look(chain(3), (0,), chain(3), (2,)), "no")
        self.same(self.look(ring(4), (0, 1), ring(4), (0, 2)), "no")
        self.same(self.look(ring(4), (0, 1), ring(4), (3, 0)), "naming")


class AlikeWebs(Looks):
    def test_a_naming_is_told(self):
        for web in edge_webs() + knotty_webs() + small_webs()[::23]:
            for naming in some_namings(len(web))[:5]:
                self.same(self.look(web, (), renamed(web, naming), ()), "naming")

    def test_with_rows(self):
        for web in edge_webs() + knotty_webs():
            for naming in some_namings(len(web))[2:]:
                for row in some_rows(len(web)):
                    self.same(self.look(web, row, renamed(web, naming), carried_row(row, naming)), "naming")


class UnlikeWebs(Looks):
    def test_a_paper_is_told(self):
        for one, other in unlike_pairs():
            for naming in some_namings(len(one))[1:4]:
                self.same(self.look(one, (), renamed(other, naming), ()), "no")
                self.same(self.look(renamed(other, naming), (), one, ()), "no")

    def test_only_one_of_those_that_twists_send_to_one_another_is_gone_into(self):
        for one, other in unlike_pairs():
            for web, home in ((one, other), (other, one)):
                self.few_kids(sought(web, (), home, ())[1], home, ())

    def few_kids(self, paper, other, other_row):
        if paper == ("unlike",):
            return
        gone = [kid[0] for kid in paper[2] if kid[1] == "no"]
        for twist in oracle.twists(other, other_row):
            for y in gone:
                self.assertTrue(twist[y] == y or twist[y] not in gone)
        for kid in paper[2]:
            if kid[1] == "no":
                self.few_kids(kid[2], other, other_row + (kid[0],))

    def test_with_rows(self):
        for one, other in unlike_pairs():
            rows = some_rows(len(one))[:5]
            for row, other_row in itertools.product(rows, repeat=2):
                self.same(self.look(one, row, other, other_row), "no")

    def test_corners_of_one_web_that_no_twist_sends_to_one_another(self):
        for web in knotty_webs():
            turns = {a: {twist[a] for twist in oracle.twists(web, ())} for a in range(len(web))}
            for a, b in itertools.product(range(0, len(web), 2), range(0, len(web), 3)):
                self.same(self.look(web, (a,), web, (b,)), "naming" if b in turns[a] else "no")


class AllOrders(Looks):
    """Over all orders of few corners: a naming is told just where one fits."""

    def test_rows_of_none(self):
        webs = list(all_webs(3, 1, 1))
        for one, other in itertools.product(webs[::3], webs[1::4]):
            wanted = "naming" if oracle.namings(one, (), other, ()) else "no"
            self.same(self.look(one, (), other, ()), wanted)
        webs = [web for many in range(3) for web in all_webs(many, 2, 2)][::2]
        for one, other in itertools.product(webs, webs[::2]):
            wanted = "naming" if oracle.namings(one, (), other, ()) else "no"
            self.same(self.look(one, (), other, ()), wanted)

    def test_all_rows(self):
        for web in [bare(3), ring(3), chain(3), Web((0, 0, 1))] + list(all_webs(3, 1, 1))[::9]:
            other = renamed(web, (1, 2, 0))
            for row, other_row in itertools.product(all_rows(3), repeat=2):
                wanted = "naming" if oracle.namings(web, row, other, other_row) else "no"
                self.same(self.look(web, row, other, other_row), wanted)

    def test_four_and_five_corners(self):
        webs = [some_web(4, seed, colours=1, marks=1, blanks=1) for seed in range(20)] + small_webs()[-29::3]
        for one, other in zip(webs, mixed(chance(3), webs)):
            for row, other_row in zip(all_rows(4)[::7], mixed(chance(4), all_rows(4)[::7])):
                wanted = "naming" if oracle.namings(one, row, other, other_row) else "no"
                self.same(self.look(one, row, other, other_row), wanted)
        for row, other_row in itertools.product([(), (0,), (3,), (1, 4)], repeat=2):
            for one, other in itertools.product((WHEEL, OTHER_WHEEL, ring(5), bare(5)), repeat=2):
                wanted = "naming" if oracle.namings(one, row, other, other_row) else "no"
                self.same(self.look(one, row, other, other_row), wanted)

    def test_whoever_made_a_paper(self):
        for one, other in ((TRIANGLES, HEXAGON), (WHEEL, OTHER_WHEEL)):
            orders = itertools.permutations(range(len(one)))
            self.assertFalse([order for order in orders if fits(one, (), other, (), order)])
            self.assertIs(right_no(one, (), other, (), sought(one, (), other, ())[1]), True)


class GreatWebs(Looks):
    def test_in_a_few_seconds(self):
        for web in great_webs():
            for other in (web, renamed(web, some_namings(12)[-1])):
                told = in_time(self, sought, web, (), other, ())
                self.same(told[0], "naming")
                self.assertTrue(oracle.fits(web, (), other, (), told[1]))
                self.same(in_time(self, fitting, web, (), other, ()), told[1])

    def test_pairs(self):
        for one, other in itertools.permutations(great_webs(), 2):
            told = in_time(self, sought, one, (), other, ())
            self.same(told[0], "no")
            self.assertIs(right_no(one, (), other, (), told[1]), True)


class NoRows(Case):
    def test_refused(self):
        web = ring(3)
        for thing in variants((2, 0), things()):
            if not oracle.is_row(3, thing):
                for deed in (sought, fitting):
                    self.refused(NoRow, {}, deed, web, thing, web, ())
                    self.refused(NoRow, {}, deed, web, (), web, thing)
                    self.refused(NoRow, {}, deed, web, thing, bare(2), thing)
        for deed in (sought, fitting):
            self.refused(NoRow, {}, deed, bare(2), (2,), bare(3), (2,))
            self.refused(NoRow, {}, deed, bare(3), (2,), bare(2), (2,))


class TheSameEachTime(Case):
    def test_in_another_run(self):
        told = told_elsewhere(
            "from likewebs.seeking import sought",
            "for one, other in unlike_pairs():",
            "    print(sought(one, (), other, ()), sought(other, (), one, ()), sought(one, (), one, ()))",
            "for web in knotty_webs():",
            "    print(sought(web, (0,), web, (1,)))",
        )
        self.assertEqual(told[0], told[1])
        self.assertTrue(told[0])


if __name__ == "__main__":
    unittest.main()
