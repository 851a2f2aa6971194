"""Namings that fit (point [26])."""

import itertools
import unittest

from likewebs.errors import NoRow
from likewebs.fitting import fits
from likewebs.leaves import naming_by
from likewebs.namings import back, then
from likewebs.rows import row_stand, row_telling, target
from likewebs.webs import Web, renamed
from tests import oracle
from tests.common import (
    Case, all_rows, bare, chain, edge_webs, few_things, full, ring, small_webs, some_namings, some_rows, things,
    variants,
)


class Fits(Case):
    def test_ordinary(self):
        pair = Web((0, 5), ((1, 0, 7),))
        turned = Web((5, 0), ((0, 1, 7),))
        self.assertIs(fits(pair, (), turned, (), (1, 0)), True)
        self.assertIs(fits(pair, (), turned, (), (0, 1)), False)
        self.assertIs(fits(pair, (0,), turned, (1,), (1, 0)), True)
        self.assertIs(fits(pair, (0,), turned, (0,), (1, 0)), False)
        self.assertIs(fits(pair, (0, 1), turned, (1, 0), (1, 0)), True)
        self.assertIs(fits(pair, (0, 1), turned, (0, 1), (1, 0)), False)

    def test_edges(self):
        self.assertIs(fits(Web(()), (), Web(()), (), ()), True)
        self.assertIs(fits(Web((3,)), (), Web((3,)), (), (0,)), True)
        self.assertIs(fits(Web((3,)), (0,), Web((3,)), (0,), (0,)), True)
        self.assertIs(fits(Web((3,)), (), Web((4,)), (), (0,)), False)
        corners = tuple(range(12))
        for web in (bare(12), full(12)):
            self.assertIs(fits(web, corners, web, corners[::-1], corners[::-1]), True)
            self.assertIs(fits(web, corners, web, corners, corners[::-1]), False)
        self.assertIs(fits(ring(12), (0, 5), ring(12), (1, 6), corners[1:] + (0,)), True)

    def test_a_naming_that_leads_the_web_but_not_the_row(self):
        self.assertIs(fits(bare(3), (0,), bare(3), (0,), (1, 0, 2)), False)
        self.assertIs(fits(ring(3), (0, 1), ring(3), (0, 2), (0, 1, 2)), False)

    def test_a_naming_that_leads_the_row_but_not_the_web(self):
        self.assertIs(fits(ring(3), (0,), ring(3), (0,), (0, 2, 1)), False)
        self.assertIs(fits(chain(3), (0, 1, 2), chain(3), (2, 1, 0), (2, 1, 0)), False)

    def test_rows_of_unlike_lengths(self):
        for row, other_row in (((), (0,)), ((0,), ()), ((0,), (0, 1)), ((0, 1), (0,)), ((0, 1, 2), (0, 1))):
            self.assertIs(fits(bare(3), row, bare(3), other_row, (0, 1, 2)), False)

    def test_webs_of_unlike_sizes(self):
        for naming in ((0, 1), (0, 1, 2), (), (0,)):
            self.assertIs(fits(bare(2), (), bare(3), (), naming), False)
            self.assertIs(fits(bare(3), (), bare(2), (), naming), False)
            self.assertIs(fits(bare(3), (2,), bare(2), (1,), naming), False)

    def test_all_orders_of_few_corners(self):
        for web in small_webs()[::13]:
            many = len(web)
            orders = list(itertools.permutations(range(many)))
            for naming in orders[-2:]:
                other = renamed(web, naming)
                for row, other_row in itertools.product(all_rows(many)[::1 + 2 * many], repeat=2):
                    fitting = oracle.namings(web, row, other, other_row)
                    for told in orders:
                        wanted = oracle.fits(web, row, other, other_row, told)
                        self.assertIs(wanted, told in fitting)
                        self.assertIs(self.call(fits, web, row, other, other_row, told), wanted)

    def test_anything(self):
        for web, other, row, other_row, naming in (
            (Web(()), Web(()), (), (), ()), (Web((2,)), Web((2,)), (0,), (0,), (0,)),
            (bare(3), bare(3), (1,), (2,), (0, 2, 1)), (ring(3), ring(3), (), (), (1, 2, 0)),
        ):
            for thing in list(variants(naming, things())) + [[0], [0, 2, 1]]:
                wanted = oracle.fits(web, row, other, other_row, thing)
                self.assertIs(self.call(fits, web, row, other, other_row, thing), wanted)
        self.assertIs(fits(Web((2,)), (), Web((2,)), (), (False,)), False)
        self.assertIs(fits(bare(2), (), bare(2), (), (False, True)), False)
        self.assertIs(fits(bare(2), (), bare(2), (), [0, 1]), False)


class NoRows(Case):
    def test_anything_that_is_no_row_is_refused_ahead_of_all_else(self):
        web = ring(3)
        for thing in list(variants((2, 0), things())):
            if not oracle.is_row(3, thing):
                for naming in ((0, 1, 2), None, [], (0,), thing):
                    self.refused(NoRow, {}, fits, web, thing, web, (), naming)
                    self.refused(NoRow, {}, fits, web, (), web, thing, naming)
        for one, other in itertools.product(few_things(), repeat=2):
            if not oracle.is_row(3, one) or not oracle.is_row(3, other):
                self.refused(NoRow, {}, fits, web, one, web, other, (0, 1, 2))

    def test_each_row_is_one_of_its_own_web(self):
        self.assertIs(fits(bare(3), (2,), bare(2), (), (0, 1, 2)), False)
        self.refused(NoRow, {}, fits, bare(2), (2,), bare(3), (), (0, 1, 2))
        self.refused(NoRow, {}, fits, bare(3), (), bare(2), (2,), (0, 1, 2))
        self.refused(NoRow, {}, fits, bare(2), (0, 0), bare(3), (), (0, 1))


class Tellings(Case):
    def test_where_one_fits_the_tellings_are_equal(self):
        for web in edge_webs() + small_webs()[::29]:
            for naming in some_namings(len(web)):
                other = renamed(web, naming)
                for row in some_rows(len(web)):
                    led = tuple(naming[corner] for corner in row)
                    self.assertIs(fits(web, row, other, led, naming), True)
                    self.same(row_telling(web, row), row_telling(other, led))

    def test_where_they_are_equal_and_each_cell_is_single_the_naming_from_cell_to_cell_fits(self):
        for web in edge_webs() + small_webs()[::29]:
            for row in some_rows(len(web)):
                stand = row_stand(web, row)
                for naming in some_namings(len(web)):
                    other = renamed(web, naming)
                    for other_row in some_rows(len(web)):
                        if target(stand) == -1 and row_telling(web, row) == row_telling(other, other_row):
                            told = then(naming_by(stand), back(naming_by(row_stand(other, other_row))))
                            self.assertIs(fits(web, row, other, other_row, told), True)


if __name__ == "__main__":
    unittest.main()
