"""Rows and their kids (points [19], [20], [21] and [22])."""

import itertools
import unittest

from likewebs.errors import NoRow
from likewebs.rows import check_row, is_row, kids, row_stand, row_telling, singled, target, worth
from likewebs.webs import Web, renamed
from tests import oracle
from tests.common import (
    Case, all_rows, all_stands, bare, chain, edge_webs, few_things, full, new_stand, ring, small_webs, some_namings,
    some_rows, some_stands, things, variants,
)

# Two chains of three, with colours that part them from a single corner.
TWO = Web((1, 1, 1, 1, 1, 1, 0), ((0, 1, 1), (1, 2, 1), (3, 4, 1), (4, 5, 1)))
REFUSING = (check_row, row_stand, row_telling, kids, worth)


class IsRow(Case):
    def test_rows(self):
        for many, thing in ((0, ()), (1, ()), (1, (0,)), (3, (2, 0)), (3, (2, 0, 1)), (12, tuple(range(12))[::-1])):
            self.assertIs(is_row(bare(many), thing), True)
            self.assertIs(check_row(bare(many), thing), None)

    def test_others(self):
        for many, thing in ((0, (0,)), (0, []), (0, None), (2, (2,)), (2, (-1,)), (2, (0, 0)), (3, (0, 1, 0)), (2, [0]),
                            (2, (False,)), (2, (0, True)), (2, "0"), (2, ("0",)), (2, ((0,),)), (2, (None,)), (2, 0),
                            (2, (10 ** 40,)), (2, {0: 0}), (12, (12,)), (12, tuple(range(13)))):
            self.assertIs(is_row(bare(many), thing), False)
            for deed in REFUSING:
                self.refused(NoRow, {}, deed, bare(many), thing)

    def test_anything(self):
        for many in (0, 1, 3):
            for thing in things() + list(variants(tuple(range(many))[::-1], things())):
                wanted = oracle.is_row(many, thing)
                self.assertIs(self.call(is_row, full(many), thing), wanted)
                for deed in REFUSING:
                    if not wanted:
                        self.refused(NoRow, {}, deed, full(many), thing)
        for thing in variants(tuple(range(12)), few_things()):
            self.assertIs(self.call(is_row, bare(12), thing), oracle.is_row(12, thing))

    def test_checking_tells_none(self):
        for row in all_rows(3):
            self.assertIs(self.call(check_row, ring(3), row), None)


class Singled(Case):
    def test_ordinary(self):
        self.same(singled(bare(3), ((0, 1, 2),), 1), ((1,), (0, 2)))
        self.same(singled(bare(4), ((3,), (0, 1, 2)), 2), ((3,), (2,), (0, 1)))
        self.same(singled(bare(4), ((0, 1, 2), (3,)), 0), ((0,), (1, 2), (3,)))
        self.same(singled(ring(3), ((0, 1, 2),), 0), ((0,), (1,), (2,)))
        self.same(singled(ring(3), ((0, 1, 2),), 1), ((1,), (2,), (0,)))
        self.same(singled(Web((4,)), ((0,),), 0), ((0,),))

    def test_one_that_is_a_cell_by_itself_stays_where_it_is(self):
        self.same(singled(bare(3), ((0, 2), (1,)), 1), ((0, 2), (1,)))
        # It is refined all the same.
        self.same(singled(chain(3), ((0, 2), (1,)), 1), ((2,), (0,), (1,)))

    def test_as_the_document_tells(self):
        for web in edge_webs():
            for stand in some_stands(web):
                for corner in range(0, len(web), 1 + len(web) // 6):
                    self.same(self.call(singled, web, stand, corner), oracle.singled(web, stand, corner))
        for web in small_webs()[::17]:
            for stand in all_stands(len(web)):
                for corner in range(len(web)):
                    self.same(singled(web, stand, corner), oracle.singled(web, stand, corner))


class RowStand(Case):
    def test_ordinary(self):
        self.same(row_stand(Web(()), ()), ())
        self.same(row_stand(bare(3), ()), ((0, 1, 2),))
        self.same(row_stand(bare(3), (1,)), ((1,), (0, 2)))
        self.same(row_stand(bare(3), (1, 2)), ((1,), (2,), (0,)))
        self.same(row_stand(bare(3), (2, 1)), ((2,), (1,), (0,)))
        self.same(row_stand(bare(3), (2, 1, 0)), ((2,), (1,), (0,)))
        self.same(row_stand(TWO, ()), ((6,), (2, 5), (0, 3), (1, 4)))
        self.same(row_stand(TWO, (4,)), ((6,), (2,), (5,), (0,), (3,), (4,), (1,)))

    def test_telling(self):
        self.same(row_telling(Web(()), ()), ((), ()))
        self.same(row_telling(Web((5,)), (0,)), (((5, 1, ((),)),), (0,)))
        self.same(row_telling(bare(2), (1,)), (((0, 1, ((), ((0, 0),))), (0, 1, (((0, 0),), ()))), (0,)))
        self.same(row_telling(bare(2), (1, 0))[1], (0, 1))
        self.same(row_telling(Web((1, 0)), (0, 1))[1], (1, 0))

    def test_as_the_document_tells(self):
        for web in edge_webs():
            for row in some_rows(len(web)):
                if len(row) < 6:
                    self.same(self.call(row_stand, web, row), oracle.row_stand(web, row))
                    self.same(self.call(row_telling, web, row), oracle.row_telling(web, row))
        for web in small_webs()[::11]:
            for row in all_rows(len(web)):
                self.same(row_stand(web, row), oracle.row_stand(web, row))
                self.same(row_telling(web, row), oracle.row_telling(web, row))

    def test_all_corners_of_the_most(self):
        for web in (bare(12), full(12), ring(12), chain(12)):
            self.same(len(row_stand(web, tuple(range(12)))), 12)
        self.same(row_stand(bare(12), tuple(range(12))[::-1]), tuple((a,) for a in range(12))[::-1])


class Target(Case):
    def test_ordinary(self):
        for stand, wanted in (((), -1), (((0,),), -1), (((1,), (0,)), -1), (((0, 1),), 0), (((2,), (0, 1)), 1),
                              (((0, 1), (2, 3)), 0), (((4,), (0, 1, 2), (3, 5)), 1), (((0,), (1,), (2, 3)), 2)):
            self.same(self.call(target, stand), wanted)
        for stand in all_stands(4):
            self.same(target(stand), oracle.target(stand))


class Kids(Case):
    def test_ordinary(self):
        self.same(kids(bare(3), ()), ([0, 1, 2], []))
        self.same(kids(bare(3), (2,)), ([0, 1], []))
        self.same(kids(bare(3), (2, 0)), ([], []))
        self.same(kids(chain(3), ()), ([], []))
        self.same(kids(Web(()), ()), ([], []))
        self.same(kids(Web((3,)), (0,)), ([], []))

    def test_left_ones(self):
        # A ring of three and one of four: one cell in the root, but no two of unlike rings are alike.
        rows = [(a, (a + 1) % 3, 1) for a in range(3)] + [(3 + a, 3 + (a + 1) % 4, 1) for a in range(4)]
        web = Web((0,) * 7, rows)
        self.same(kids(web, ()), ([3, 4, 5, 6], [0, 1, 2]))
        self.same(kids(web, (3,)), ([0, 1, 2], []))
        # A row that is not good has kids, too.
        self.same(kids(web, (0,)), ([3, 4, 5, 6], []))

    def test_as_the_document_tells(self):
        for web in edge_webs():
            for row in some_rows(len(web)):
                if len(row) < 3:
                    self.same(self.call(kids, web, row), oracle.kids(web, row))
        for web in small_webs()[::11]:
            for row in all_rows(len(web)):
                self.same(kids(web, row), oracle.kids(web, row))

    def test_the_lists_are_told_anew(self):
        for web, row in ((bare(3), ()), (bare(3), (0, 1)), (Web(()), ())):
            ahead = kids(web, row)
            ahead[0].append(99)
            ahead[1].append(99)
            behind = kids(web, row)
            self.same(behind, oracle.kids(web, row))
            self.assertIsNot(behind[0], behind[1])


class Worth(Case):
    def test_ordinary(self):
        web = bare(2)
        self.same(worth(web, ()), (row_telling(web, ()),))
        self.same(worth(web, (1,)), (row_telling(web, ()), row_telling(web, (1,))))
        self.same(worth(web, (1, 0)), (row_telling(web, ()), row_telling(web, (1,)), row_telling(web, (1, 0))))
        self.same(worth(Web(()), ()), (((), ()),))

    def test_as_the_document_tells(self):
        for web in edge_webs():
            for row in some_rows(len(web)):
                if len(row) < 5:
                    self.same(self.call(worth, web, row), oracle.worth(web, row))
        for web in small_webs()[::23]:
            for row in all_rows(len(web)):
                self.same(worth(web, row), oracle.worth(web, row))


class NothingIsChanged(Case):
    def test_the_marks_of_a_web_stay(self):
        for web in edge_webs():
            marks = oracle.marks(web)
            for row in some_rows(len(web))[:3]:
                row_telling(web, row)
                kids(web, row)
            for a, b in marks:
                self.same(web.mark(a, b), marks[a, b])


class AlongWithANaming(Case):
    def test_all_of_it(self):
        for web in edge_webs() + small_webs()[::19]:
            for naming in some_namings(len(web)):
                other = renamed(web, naming)
                for row in some_rows(len(web)):
                    led = tuple(naming[corner] for corner in row)
                    stand = row_stand(web, row)
                    self.same(row_stand(other, led), new_stand(stand, naming))
                    self.same(target(row_stand(other, led)), target(stand))
                    self.same(row_telling(other, led), row_telling(web, row))
                    if len(row) < 4:
                        wanted = tuple(sorted(naming[corner] for corner in told) for told in kids(web, row))
                        self.same(kids(other, led), wanted)
                        self.same(worth(other, led), worth(web, row))

    def test_singled(self):
        for web in edge_webs():
            for naming in some_namings(len(web)):
                for stand, corner in itertools.product(some_stands(web), range(0, len(web), 3)):
                    told = singled(renamed(web, naming), new_stand(stand, naming), naming[corner])
                    self.same(told, new_stand(singled(web, stand, corner), naming))


if __name__ == "__main__":
    unittest.main()
