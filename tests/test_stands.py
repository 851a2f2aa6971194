"""Stands (points [12] and [13])."""

import itertools
import unittest

from likewebs.stands import by_colours, cell_of, finer, is_even, is_stand, look
from likewebs.webs import Web, renamed
from tests import oracle
from tests.common import (
    Case, all_stands, bare, edge_webs, few_things, full, new_stand, small_webs, some_namings, some_stands, things,
    variants,
)

# 0 and 1 point at each other, 2 at both with another mark, 3 at none.
WEB = Web((5, 5, 0, 5), ((0, 1, 1), (1, 0, 2), (2, 0, 3), (2, 1, 3)))


class IsStand(Case):
    def test_stands(self):
        for many, thing in ((0, ()), (1, ((0,),)), (2, ((0, 1),)), (2, ((1,), (0,))), (3, ((1,), (0, 2))),
                            (12, (tuple(range(12)),)), (12, tuple((a,) for a in range(12))[::-1])):
            self.assertIs(is_stand(bare(many), thing), True)

    def test_others(self):
        for many, thing in (
            (0, ((),)), (0, []), (0, None), (0, ((0,),)), (1, ()), (1, (0,)), (1, [(0,)]), (1, ([0],)), (1, ((0,), ())),
            (1, ((False,),)), (2, ((1, 0),)), (2, ((0,),)), (2, ((0,), (1, 1))), (2, ((0, 1), (1,))), (2, ((0, 0, 1),)),
            (2, ((0,), (True,))), (2, ((0, True),)), (2, ((0, 1, 2),)), (2, ((-1,), (0, 1))), (2, ((0, 1), (2,))),
            (2, ((0,), ("1",))), (2, ((0,), (None,))), (2, ((0, 1), 2)), (3, ((0, 2),)), (3, ((0, 2), (2,))),
            (2, ((0, 1), (0, 1))), (2, {(0, 1): 0}), (2, "01"), (2, (("0", "1"),)), (2, ((0,), (10 ** 40,))),
            (3, ((0, 1), (1, 2))), (12, (tuple(range(13)),)), (12, (tuple(range(11)),)), (2, (((0,), (1,)),)),
        ):
            self.assertIs(is_stand(bare(many), thing), False)

    def test_all_stands_of_few_corners(self):
        for many, wanted in ((0, 1), (1, 1), (2, 3), (3, 13), (4, 75)):
            told = all_stands(many)
            self.assertEqual(len(set(told)), wanted)
            for thing in told:
                for other in range(5):
                    self.assertIs(is_stand(bare(other), thing), many == other)

    def test_anything(self):
        for many in (0, 1, 2, 3, 12):
            for thing in things():
                self.assertIs(self.call(is_stand, bare(many), thing), oracle.is_stand(many, thing))
            for thing in variants(some_stands(bare(many))[-1], few_things()):
                self.assertIs(self.call(is_stand, full(many), thing), oracle.is_stand(many, thing))
        for thing in variants(((0, 2), (1,)), things()):
            self.assertIs(self.call(is_stand, bare(3), thing), oracle.is_stand(3, thing))


class Cells(Case):
    def test_by_colours(self):
        self.same(by_colours(Web(())), ())
        self.same(by_colours(Web((9,))), ((0,),))
        self.same(by_colours(WEB), ((2,), (0, 1, 3)))
        self.same(by_colours(Web((3, 1, 2, 1, 10 ** 9, 0))), ((5,), (1, 3), (2,), (0,), (4,)))
        self.same(by_colours(bare(12)), (tuple(range(12)),))
        self.same(by_colours(Web(tuple(range(12))[::-1])), tuple((a,) for a in range(12))[::-1])
        for web in edge_webs():
            self.same(self.call(by_colours, web), oracle.by_colours(web))

    def test_cell_of(self):
        self.same([cell_of(((2,), (0, 3), (1,)), corner) for corner in range(4)], [1, 2, 0, 1])
        for stand in all_stands(4):
            for at, cell in enumerate(stand):
                for corner in cell:
                    self.same(self.call(cell_of, stand, corner), at)

    def test_finer(self):
        self.assertIs(finer((), ()), True)
        self.assertIs(finer(((0,), (1,)), ((0, 1),)), True)
        self.assertIs(finer(((0, 1),), ((0,), (1,))), False)
        self.assertIs(finer(((1,), (0,)), ((0,), (1,))), True)
        self.assertIs(finer(((0, 1), (2, 3)), ((0, 2), (1, 3))), False)
        self.assertIs(finer(((3,), (0, 2), (1,)), ((0, 2, 3), (1,))), True)
        self.assertIs(finer(((0, 1), (2,)), ((0,), (1, 2))), False)

    def test_finer_over_all_stands(self):
        for many in range(5):
            for one, other in itertools.product(all_stands(many), repeat=2):
                self.assertIs(finer(one, other), oracle.finer(one, other))


class Looks(Case):
    def test_ordinary(self):
        stand = ((2,), (0, 1, 3))
        self.same(look(WEB, stand, 0), (((0, 3),), ((0, 0), (1, 2))))
        self.same(look(WEB, stand, 1), (((0, 3),), ((0, 0), (2, 1))))
        self.same(look(WEB, stand, 2), ((), ((0, 0), (3, 0), (3, 0))))
        self.same(look(WEB, stand, 3), (((0, 0),), ((0, 0), (0, 0))))
        self.same(look(WEB, ((0, 1, 3), (2,)), 0), (((0, 0), (1, 2)), ((0, 3),)))
        self.same(look(WEB, ((0, 1, 2, 3),), 2), (((0, 0), (3, 0), (3, 0)),))
        self.same(look(Web((1,)), ((0,),), 0), ((),))

    def test_pairs_are_sorted_by_out_and_then_in(self):
        web = Web((0,) * 5, ((0, 1, 2), (2, 0, 9), (0, 3, 2), (3, 0, 1), (4, 0, 3)))
        self.same(look(web, ((0, 1, 2, 3, 4),), 0), (((0, 3), (0, 9), (2, 0), (2, 1)),))

    def test_as_the_document_tells(self):
        for web in edge_webs() + small_webs()[::5]:
            for stand in some_stands(web):
                for corner in range(len(web)):
                    self.same(self.call(look, web, stand, corner), oracle.look(web, stand, corner))

    def test_even(self):
        self.assertIs(is_even(Web(()), ()), True)
        self.assertIs(is_even(bare(12), (tuple(range(12)),)), True)
        self.assertIs(is_even(full(12), (tuple(range(12)),)), True)
        self.assertIs(is_even(WEB, ((2,), (0, 1, 3))), False)
        self.assertIs(is_even(WEB, ((2,), (0, 1), (3,))), False)
        self.assertIs(is_even(WEB, ((3,), (1,), (0,), (2,))), True)
        self.assertIs(is_even(Web((0, 1)), ((0, 1),)), True)
        self.assertIs(is_even(Web((0, 0), ((0, 1, 1),)), ((0, 1),)), False)
        self.assertIs(is_even(Web((0, 0), ((0, 1, 1), (1, 0, 1))), ((0, 1),)), True)
        self.assertIs(is_even(Web((0, 0), ((0, 1, 1), (1, 0, 2))), ((0, 1),)), False)

    def test_even_over_all_stands(self):
        for web in small_webs():
            for stand in all_stands(len(web)):
                self.assertIs(self.call(is_even, web, stand), oracle.is_even(web, stand))

    def test_goes_along_with_a_naming(self):
        for web in edge_webs():
            for naming in some_namings(len(web)):
                other = renamed(web, naming)
                self.same(by_colours(other), new_stand(by_colours(web), naming))
                for stand in some_stands(web):
                    led = new_stand(stand, naming)
                    self.assertIs(is_stand(other, led), True)
                    self.assertIs(is_even(other, led), is_even(web, stand))
                    for corner in range(len(web)):
                        self.same(look(other, led, naming[corner]), look(web, stand, corner))
                        self.same(cell_of(led, naming[corner]), cell_of(stand, corner))


if __name__ == "__main__":
    unittest.main()
