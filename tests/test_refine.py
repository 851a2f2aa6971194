"""Stands refined (points [4], [14], [15] and [16])."""

import itertools
import unittest

from likewebs.refine import apart, next_stand, refined, root, rounds, telling
from likewebs.webs import Web, renamed
from tests import oracle
from tests.common import (
    Case, all_stands, bare, chain, edge_webs, full, new_stand, ring, small_webs, some_namings, some_stands,
)

ONE_CELL = ((0, 1, 2, 3, 4),)


class Rounds(Case):
    def test_a_chain(self):
        web = chain(5)
        self.same(next_stand(web, ONE_CELL), ((4,), (0,), (1, 2, 3)))
        self.same(rounds(web, ONE_CELL), [
            ONE_CELL, ((4,), (0,), (1, 2, 3)), ((4,), (0,), (2,), (1,), (3,)),
        ])
        self.same(refined(web, ONE_CELL), ((4,), (0,), (2,), (1,), (3,)))
        self.same(root(web), ((4,), (0,), (2,), (1,), (3,)))

    def test_a_round_that_changes_nothing(self):
        for web in (bare(5), full(5), ring(5)):
            self.same(next_stand(web, ONE_CELL), ONE_CELL)
            self.same(rounds(web, ONE_CELL), [ONE_CELL])
            self.same(root(web), ONE_CELL)

    def test_edges(self):
        self.same(next_stand(Web(()), ()), ())
        self.same(rounds(Web(()), ()), [()])
        self.same(refined(Web(()), ()), ())
        self.same(root(Web(())), ())
        self.same(root(Web((8,))), ((0,),))
        singles = tuple((a,) for a in (3, 0, 2, 1, 4))
        self.same(rounds(chain(5), singles), [singles])
        self.same(root(Web((1, 0))), ((1,), (0,)))

    def test_a_round_looks_at_the_stand_ahead_of_it(self):
        # 1 and 2 part by 0 and 3, which part only in this very round.
        web = Web((0,) * 5, ((0, 1, 1), (1, 0, 1), (3, 2, 1), (2, 3, 1), (0, 4, 1)))
        stand = ((4,), (1, 2), (0, 3))
        self.same(next_stand(web, stand), ((4,), (1, 2), (3,), (0,)))
        self.same(refined(web, stand), ((4,), (1,), (2,), (3,), (0,)))

    def test_as_the_document_tells(self):
        for web in edge_webs():
            for stand in some_stands(web):
                self.same(self.call(next_stand, web, stand), oracle.next_stand(web, stand))
                self.same(self.call(rounds, web, stand), oracle.rounds(web, stand))
                self.same(self.call(refined, web, stand), oracle.refined(web, stand))
            self.same(self.call(root, web), oracle.refined(web, oracle.by_colours(web)))

    def test_over_all_stands_of_few_corners(self):
        for web in small_webs()[::2]:
            for stand in all_stands(len(web)):
                self.same(rounds(web, stand), oracle.rounds(web, stand))

    def test_rounds_are_told_anew(self):
        self.told_anew(rounds, chain(5), ONE_CELL)
        self.told_anew(rounds, bare(5), ONE_CELL)
        self.told_anew(rounds, Web(()), ())

    def test_the_coarsest_even_one(self):
        for web in small_webs():
            stands = all_stands(len(web))
            even = [stand for stand in stands if oracle.is_even(web, stand)]
            for stand in stands:
                told = refined(web, stand)
                self.assertIn(told, even)
                self.assertTrue(oracle.finer(told, stand))
                for other in even:
                    if oracle.finer(other, stand):
                        self.assertTrue(oracle.finer(other, told))


class Apart(Case):
    def test_ordinary(self):
        web = chain(5)
        self.same(apart(web, ONE_CELL, 0, 4), (1, 0))
        self.same(apart(web, ONE_CELL, 4, 0), (1, 0))
        self.same(apart(web, ONE_CELL, 1, 2), (2, 1))
        self.same(apart(web, ONE_CELL, 1, 3), (2, 0))
        self.same(apart(web, ((0, 1), (2, 3, 4)), 0, 2), (0, -1))
        self.same(apart(web, ((0, 1), (2, 3, 4)), 2, 0), (0, -1))
        self.same(apart(ring(5), ONE_CELL, 0, 4), None)

    def test_one_corner_is_never_apart_from_itself(self):
        for web in edge_webs():
            for stand in some_stands(web):
                for corner in range(len(web)):
                    self.same(apart(web, stand, corner, corner), None)

    def test_the_first_cell_that_parts(self):
        web = Web((0,) * 4, ((0, 2, 1), (0, 3, 1)))
        self.same(apart(web, ((0, 1), (2, 3)), 0, 1), (1, 1))
        self.same(apart(web, ((2,), (0, 1), (3,)), 0, 1), (1, 0))
        self.same(apart(web, ((0, 1), (2,), (3,)), 0, 1), (1, 1))

    def test_as_the_document_tells(self):
        for web in edge_webs():
            if len(web) < 12:
                for stand in some_stands(web):
                    for a, b in itertools.product(range(len(web)), repeat=2):
                        self.same(self.call(apart, web, stand, a, b), oracle.apart(web, stand, a, b))
        for web in small_webs()[::9]:
            for stand in all_stands(len(web)):
                for a, b in itertools.combinations(range(len(web)), 2):
                    self.same(apart(web, stand, a, b), oracle.apart(web, stand, a, b))


class Telling(Case):
    def test_ordinary(self):
        web = Web((5, 4, 9), ((0, 1, 1), (1, 2, 6)))
        self.same(telling(web, ((0, 1), (2,))), (
            (4, 2, (((0, 1),), ((6, 0),))),
            (9, 1, (((0, 0), (0, 6)), ())),
        ))
        self.same(telling(web, ((2,), (1,), (0,))), (
            (9, 1, ((), ((0, 6),), ((0, 0),))),
            (4, 1, (((6, 0),), (), ((0, 1),))),
            (5, 1, (((0, 0),), ((1, 0),), ())),
        ))
        self.same(telling(Web(()), ()), ())
        self.same(telling(Web((3,)), ((0,),)), ((3, 1, ((),)),))
        self.same(telling(bare(3), ((0, 1, 2),)), ((0, 3, (((0, 0), (0, 0)),)),))

    def test_as_the_document_tells(self):
        for web in edge_webs():
            for stand in some_stands(web):
                self.same(self.call(telling, web, stand), oracle.telling(web, stand))
        for web in small_webs()[::7]:
            for stand in all_stands(len(web)):
                self.same(telling(web, stand), oracle.telling(web, stand))


class AlongWithANaming(Case):
    def test_all_of_it(self):
        for web in edge_webs() + small_webs()[::11]:
            for naming in some_namings(len(web)):
                other = renamed(web, naming)
                self.same(root(other), new_stand(root(web), naming))
                for stand in some_stands(web):
                    led = new_stand(stand, naming)
                    self.same(rounds(other, led), [new_stand(told, naming) for told in rounds(web, stand)])
                    self.same(next_stand(other, led), new_stand(next_stand(web, stand), naming))
                    self.same(refined(other, led), new_stand(refined(web, stand), naming))
                    self.same(telling(other, led), telling(web, stand))

    def test_apart(self):
        for web in edge_webs() + small_webs()[::11]:
            if len(web) < 8:
                for naming in some_namings(len(web)):
                    for stand in some_stands(web):
                        for a, b in itertools.combinations(range(len(web)), 2):
                            told = apart(renamed(web, naming), new_stand(stand, naming), naming[a], naming[b])
                            self.same(told, apart(web, stand, a, b))


if __name__ == "__main__":
    unittest.main()
