"""Rows, twists and papers of no, carried (point [29])."""

import itertools
import unittest

from likewebs.carrying import carried_no, carried_row, carried_twist
from likewebs.fitting import fits
from likewebs.namings import back, stays, then
from likewebs.webs import Web, renamed
from tests import oracle
from tests.common import (
    HEXAGON, OTHER_WHEEL, TRIANGLES, WHEEL, Case, bare, edge_webs, knotty_webs, ring, some_namings, some_rows,
    unlike_pairs,
)
from tests.makers import some_papers


class Rows(Case):
    def test_ordinary(self):
        self.same(carried_row((), ()), ())
        self.same(carried_row((), (1, 0)), ())
        self.same(carried_row((0,), (0,)), (0,))
        self.same(carried_row((0, 2), (1, 2, 0)), (1, 0))
        self.same(carried_row((2, 0, 1), (1, 2, 0)), (0, 1, 2))
        corners = tuple(range(12))
        self.same(carried_row(corners, corners[::-1]), corners[::-1])

    def test_as_told(self):
        for many in range(5):
            for naming in itertools.permutations(range(many)):
                for row in some_rows(many):
                    told = self.call(carried_row, row, naming)
                    self.same(told, tuple(naming[corner] for corner in row))
                    self.same(carried_row(told, back(naming)), row)


class Twists(Case):
    def test_ordinary(self):
        self.same(carried_twist((), ()), ())
        self.same(carried_twist((0,), (0,)), (0,))
        self.same(carried_twist((1, 0, 2), (1, 2, 0)), (0, 2, 1))
        self.same(carried_twist((1, 2, 0), (0, 2, 1)), (2, 0, 1))
        self.same(carried_twist((1, 2, 3, 0), (0, 2, 1, 3)), (2, 3, 1, 0))

    def test_where_a_was_sent_to_b_the_new_a_is_sent_to_the_new_b(self):
        for many in range(5):
            for twist, naming in itertools.product(itertools.permutations(range(many)), repeat=2):
                told = self.call(carried_twist, twist, naming)
                self.assertTrue(oracle.is_naming(many, told))
                for a in range(many):
                    self.same(told[naming[a]], naming[twist[a]])
                self.same(carried_twist(told, back(naming)), twist)

    def test_carried_twists_are_twists(self):
        for web in edge_webs()[:12] + knotty_webs()[:6]:
            for row in some_rows(len(web))[:3]:
                for naming in some_namings(len(web)):
                    for twist in oracle.twists(web, row)[:24]:
                        other, led = renamed(web, naming), carried_row(row, naming)
                        self.assertIs(fits(other, led, other, led, carried_twist(twist, naming)), True)

    def test_goes_along_with_doing_one_behind_the_other(self):
        first, second, naming = (1, 2, 0, 3), (3, 1, 0, 2), (2, 0, 3, 1)
        wanted = then(carried_twist(first, naming), carried_twist(second, naming))
        self.same(carried_twist(then(first, second), naming), wanted)


class Papers(Case):
    def test_ordinary(self):
        self.same(carried_no(("unlike",), (1, 0), (0, 1)), ("unlike",))
        self.same(carried_no(("unlike",), (), (0, 1, 2)), ("unlike",))
        paper = ("every", 0, ((1, "no", ("unlike",)), (0, "turned", 1, (2, 0, 1)), (2, "turned", 0, (1, 2, 0))))
        wanted = ("every", 2, ((2, "no", ("unlike",)), (1, "turned", 2, (2, 0, 1)), (0, "turned", 1, (1, 2, 0))))
        self.same(self.call(carried_no, paper, (2, 0, 1), (1, 2, 0)), wanted)
        wanted = ("every", 0, ((1, "no", ("unlike",)), (2, "turned", 1, (1, 2, 0)), (0, "turned", 2, (2, 0, 1))))
        self.same(carried_no(paper, (0, 1, 2), (2, 1, 0)), wanted)

    def test_within_one_another(self):
        inner = ("every", 3, ((2, "no", ("unlike",)), (3, "turned", 2, (0, 1, 3, 2))))
        paper = ("every", 1, ((0, "no", inner), (1, "no", ("unlike",))))
        inner = ("every", 0, ((1, "no", ("unlike",)), (2, "turned", 1, (0, 2, 1, 3))))
        wanted = ("every", 2, ((3, "no", inner), (0, "no", ("unlike",))))
        self.same(self.call(carried_no, paper, (3, 2, 1, 0), (3, 0, 1, 2)), wanted)

    def test_the_unlike_sides_have_numbers_of_their_own(self):
        paper = some_papers(WHEEL, (), OTHER_WHEEL, ())[0]
        one, other = (1, 2, 3, 4, 0), (4, 3, 2, 1, 0)
        told = carried_no(paper, one, other)
        self.same(told[1], one[paper[1]])
        self.same([kid[0] for kid in told[2]], [other[kid[0]] for kid in paper[2]])
        self.same([kid[1] for kid in told[2]], [kid[1] for kid in paper[2]])

    def test_right_just_where_it_was_right(self):
        pairs = unlike_pairs()
        for web, other in pairs:
            papers = some_papers(web, (), other, ())
            for naming, other_naming in zip(some_namings(len(web)), some_namings(len(other))[::-1]):
                new, new_other = renamed(web, naming), renamed(other, other_naming)
                for paper in papers:
                    told = self.call(carried_no, paper, naming, other_naming)
                    self.assertIs(oracle.right_no(new, (), new_other, (), told), True)
                    self.same(carried_no(told, back(naming), back(other_naming)), paper)
                    # It was wrong for these.
                    self.assertIs(oracle.right_no(web, (), web, (), paper), False)
                    self.assertIs(oracle.right_no(new, (), new, (), told), False)

    def test_with_rows(self):
        one, other = renamed(TRIANGLES, (3, 4, 5, 0, 1, 2)), renamed(HEXAGON, (5, 3, 1, 0, 2, 4))
        for row, other_row in (((), ()), ((0,), (0,)), ((2,), (5,)), ((0, 1), (0, 1)), ((1,), ()), ((0, 3), (0, 3))):
            for paper in some_papers(one, row, other, other_row):
                for naming, other_naming in itertools.product(some_namings(6)[1:4], some_namings(6)[2:]):
                    told = carried_no(paper, naming, other_naming)
                    led, other_led = carried_row(row, naming), carried_row(other_row, other_naming)
                    new, new_other = renamed(one, naming), renamed(other, other_naming)
                    self.assertIs(oracle.right_no(new, led, new_other, other_led, told), True)
                    for wrong in some_rows(6):
                        wanted = oracle.right_no(one, row, other, wrong, paper)
                        carried = carried_row(wrong, other_naming)
                        self.assertIs(oracle.right_no(new, led, new_other, carried, told), wanted)

    def test_nothing_changed_on_either_side(self):
        for web, other in unlike_pairs():
            for paper in some_papers(web, (), other, ()):
                self.same(carried_no(paper, stays(len(web)), stays(len(other))), paper)

    def test_webs_of_unlike_sizes(self):
        for web, other in ((bare(2), ring(3)), (Web(()), Web((1,)))):
            self.same(carried_no(("unlike",), stays(len(web)), stays(len(other))), ("unlike",))


if __name__ == "__main__":
    unittest.main()
