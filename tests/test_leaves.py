"""Leaves (points [22] and [23])."""

import unittest

from likewebs.errors import NoStand, TooMany
from likewebs.leaves import leaves, naming_by
from likewebs.rows import row_stand
from likewebs.webs import Web, leads, renamed
from tests import oracle
from tests.common import (
    Case, all_rows, all_stands, bare, chain, edge_webs, full, ring, small_webs, some_namings, some_web,
)


class NamingBy(Case):
    def test_ordinary(self):
        self.same(naming_by(()), ())
        self.same(naming_by(((0,),)), (0,))
        self.same(naming_by(((2,), (0,), (1,))), (1, 2, 0))
        self.same(naming_by(((1,), (2,), (0,))), (2, 0, 1))
        self.same(naming_by(tuple((a,) for a in range(12))[::-1]), tuple(range(12))[::-1])

    def test_over_all_stands(self):
        for many in range(5):
            for stand in all_stands(many):
                if all(len(cell) == 1 for cell in stand):
                    told = self.call(naming_by, stand)
                    self.same(told, tuple(oracle.place(stand, corner) for corner in range(many)))
                else:
                    self.refused(NoStand, {}, naming_by, stand)

    def test_refused(self):
        for stand in (((0, 1),), ((0,), (1, 2)), ((1, 2), (0,)), (tuple(range(12)),)):
            self.refused(NoStand, {}, naming_by, stand)


class Leaves(Case):
    def test_ordinary(self):
        self.same(leaves(Web(())), [()])
        self.same(leaves(Web((7,))), [()])
        self.same(leaves(chain(12)), [()])
        self.same(leaves(bare(2)), [(0,), (1,)])
        self.same(leaves(bare(3)), [(0, 1), (0, 2), (1, 0), (1, 2), (2, 0), (2, 1)])
        self.same(leaves(ring(3)), [(0,), (1,), (2,)])
        self.same(leaves(ring(12)), [(a,) for a in range(12)])
        self.same(leaves(Web((1, 0, 1, 0))), [(1, 0), (1, 2), (3, 0), (3, 2)])

    def test_all_rows_of_few_corners(self):
        for web in small_webs()[::7]:
            wanted = [row for row in all_rows(len(web)) if oracle.is_leaf(web, row)]
            self.same(self.call(leaves, web), wanted)

    def test_left_ones_are_not_gone_into(self):
        rows = [(a, (a + 1) % 3, 1) for a in range(3)] + [(3 + a, 3 + (a + 1) % 4, 1) for a in range(4)]
        web = Web((0,) * 7, rows)
        self.same(leaves(web), [(first, second) for first in (3, 4, 5, 6) for second in (0, 1, 2)])

    def test_bounds(self):
        for web, many in ((Web(()), 1), (chain(3), 1), (bare(2), 2), (bare(3), 6), (bare(4), 24), (ring(12), 12)):
            self.same(len(leaves(web, most=many)), many)
            self.same(len(leaves(web, most=many + 1)), many)
            self.same(leaves(web, most=10 ** 40), leaves(web))
            self.refused(TooMany, {"bound": many - 1}, leaves, web, most=many - 1)
            self.refused(TooMany, {"bound": 0}, leaves, web, most=0)

    def test_few(self):
        self.refused(TooMany, {"bound": 60}, leaves, bare(5))
        self.same(len(leaves(bare(5), most=120)), 120)
        self.refused(TooMany, {"bound": 119}, leaves, bare(5), most=119)
        # Just FEW leaves: a ring of five beside bare corners of another colour, two pairs by colours and one of three.
        web = Web((0,) * 5 + (1, 1) + (2, 2, 2), ring(5).arrows)
        self.same(len(leaves(web)), 60)
        self.refused(TooMany, {"bound": 59}, leaves, web, most=59)

    def test_not_all_leaves_of_a_great_web_are_met(self):
        for web in (bare(12), full(12)):
            self.refused(TooMany, {"bound": 60}, leaves, web)
            self.refused(TooMany, {"bound": 3}, leaves, web, most=3)

    def test_told_anew(self):
        for web in (bare(3), chain(3), Web(())):
            self.told_anew(leaves, web)

    def test_leaves_that_twists_lead_to_one_another_name_alike(self):
        for web in (bare(4), ring(6), full(3), some_web(7, 3)):
            forms = [renamed(web, naming_by(row_stand(web, row))) for row in leaves(web)]
            for row, form in zip(leaves(web), forms):
                self.assertIs(leads(web, naming_by(row_stand(web, row)), form), True)
                self.same(form, forms[0])

    def test_goes_along_with_a_naming(self):
        for web in edge_webs():
            try:
                told = leaves(web)
            except TooMany:
                continue
            for naming in some_namings(len(web)):
                wanted = sorted(tuple(naming[corner] for corner in row) for row in told)
                self.same(leaves(renamed(web, naming)), wanted)


if __name__ == "__main__":
    unittest.main()
