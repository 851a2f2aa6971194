"""Logs (points [17] and [18])."""

import unittest

from likewebs.errors import NoLog
from likewebs.logs import log_of, walked
from likewebs.refine import refined
from likewebs.webs import Web, renamed
from tests import oracle
from tests.common import (
    Case, all_stands, bare, chain, edge_webs, few_things, full, new_stand, ring, small_webs, some_namings, some_stands,
    some_web, things, variants,
)

CHAIN = chain(4)
ONE_CELL = ((0, 1, 2, 3),)


class Walked(Case):
    def walk(self, web, stand, log):
        """Sees a log walked, or refused, as the document tells."""
        kind, wanted = oracle.walk(web, stand, log)
        if kind == "no":
            self.refused(NoLog, {"at": wanted}, walked, web, stand, log)
        else:
            self.same(self.call(walked, web, stand, log), wanted)

    def test_ordinary(self):
        self.same(walked(CHAIN, ONE_CELL, []), ONE_CELL)
        self.same(walked(CHAIN, ONE_CELL, [(0, 0, (1, 0))]), ((3,), (0, 1, 2)))
        self.same(walked(CHAIN, ONE_CELL, [(0, 0, (0, 1))]), ((0,), (1, 2, 3)))
        self.same(walked(CHAIN, ONE_CELL, [(0, 0, (0, 0))]), ((1, 2), (0, 3)))
        self.same(walked(CHAIN, ONE_CELL, [(0, 0, (1, 0)), (1, 0, (1, 0))]), ((3,), (0, 1), (2,)))
        self.same(walked(CHAIN, ONE_CELL, [(0, 0, (1, 0)), (1, 0, (1, 0)), (1, 2, (1, 0))]), ((3,), (0,), (1,), (2,)))
        self.same(walked(Web(()), (), []), ())

    def test_three_groups_the_lesser_counts_first(self):
        web = Web((0,) * 6, ((2, 3, 1), (2, 4, 1), (0, 5, 1)))
        self.same(walked(web, ((0, 1, 2), (3, 4, 5)), [(0, 1, (1, 0))]), ((1,), (0,), (2,), (3, 4, 5)))
        self.same(walked(web, ((3, 4, 5), (0, 1, 2)), [(1, 0, (0, 0))]), ((3, 4, 5), (2,), (0,), (1,)))
        # Each of 3, 4 and 5 is pointed at once from there, so that row parts nothing.
        self.refused(NoLog, {"at": 0}, walked, web, ((0, 1, 2), (3, 4, 5)), [(1, 0, (0, 1))])

    def test_no_list(self):
        for log in ((), ((0, 0, (1, 0)),), None, True, 0, "", {}, {0: (0, 0, (1, 0))}, Web(())):
            self.refused(NoLog, {"at": None}, walked, CHAIN, ONE_CELL, log)

    def test_wrong_rows(self):
        for row in (
            None, True, 0, "", [], (), {}, CHAIN, [0, 0, (1, 0)], (0, 0, [1, 0]), (0, 0), (0, 0, (1, 0), 0), (0, 0, (1,)),
            (0, 0, (1, 0, 0)), (0, 0, 1), (0, 0, 1, 0), (False, 0, (1, 0)), (0, False, (1, 0)), (0, 0, (True, 0)),
            (0, 0, (1, False)), (-1, 0, (1, 0)), (0, -1, (1, 0)), (1, 0, (1, 0)), (0, 1, (1, 0)), (10 ** 40, 0, (1, 0)),
            (0, 10 ** 40, (1, 0)), (0, 0, (10 ** 40, 0)), (0, 0, (-1, 0)), (0, 0, (1, 1)), (0, 0, (2, 0)),
            ("0", 0, (1, 0)), (0, None, (1, 0)), (0, 0, ("1", 0)), (0, 0, "10"), (0, 0, None), (0, 0, {}),
        ):
            self.refused(NoLog, {"at": 0}, walked, CHAIN, ONE_CELL, [row])
            self.refused(NoLog, {"at": 0}, walked, CHAIN, ONE_CELL, [row, (0, 0, (1, 0))])
        for row in ((0, 0, (1, 0)), (2, 0, (1, 0)), (0, 2, (1, 0)), None, (1, 1, (True, 0)), (-1, 0, (1, 0))):
            self.refused(NoLog, {"at": 1}, walked, CHAIN, ONE_CELL, [(0, 0, (1, 0)), row])
            self.refused(NoLog, {"at": 1}, walked, CHAIN, ONE_CELL, [(0, 0, (1, 0)), row, None])

    def test_an_even_stand_is_parted_by_no_row(self):
        for web in (bare(4), full(4), ring(4)):
            self.same(walked(web, ONE_CELL, []), ONE_CELL)
            for pair in ((0, 0), (0, 1), (1, 0), (1, 1)):
                self.refused(NoLog, {"at": 0}, walked, web, ONE_CELL, [(0, 0, pair)])
        self.refused(NoLog, {"at": 0}, walked, Web(()), (), [(0, 0, (0, 0))])
        self.refused(NoLog, {"at": 0}, walked, CHAIN, ((0,), (1,), (2,), (3,)), [(0, 1, (1, 0))])

    def test_anything(self):
        log = [(0, 0, (1, 0)), (1, 0, (1, 0))]
        for thing in things():
            self.walk(CHAIN, ONE_CELL, thing)
            self.walk(CHAIN, ONE_CELL, [thing])
            self.walk(Web(()), (), thing)
        for thing in variants(log, few_things()):
            self.walk(CHAIN, ONE_CELL, thing)
        for thing in variants([(0, 0, (0, 0))], things()):
            self.walk(CHAIN, ONE_CELL, thing)

    def test_all_rows_of_small_numbers(self):
        for web in small_webs()[::9] + [CHAIN, some_web(6, 4)]:
            for stand in some_stands(web):
                many = len(stand)
                for cell in range(-1, many + 1):
                    for by in range(-1, many + 1):
                        for out in range(-1, 3):
                            for into in range(3):
                                self.walk(web, stand, [(cell, by, (out, into))])


class LogOf(Case):
    def test_ordinary(self):
        self.same(log_of(CHAIN, ONE_CELL), [(0, 0, (0, 0)), (0, 0, (0, 1)), (2, 0, (0, 0))])
        self.same(log_of(CHAIN, ((3,), (0, 1, 2))), [(1, 0, (0, 0)), (2, 1, (0, 0))])
        self.same(log_of(Web(()), ()), [])
        self.same(log_of(Web((1,)), ((0,),)), [])
        self.same(log_of(bare(12), (tuple(range(12)),)), [])
        self.same(log_of(full(12), (tuple(range(12)),)), [])

    def test_as_the_document_tells(self):
        for web in [web for web in edge_webs() if len(web) < 8] + small_webs()[::9]:
            for stand in some_stands(web):
                self.same(self.call(log_of, web, stand), oracle.log_of(web, stand))

    def test_all_stands_of_few_corners(self):
        for web in small_webs()[::17]:
            for stand in all_stands(len(web)):
                self.same(log_of(web, stand), oracle.log_of(web, stand))

    def test_it_walks_to_the_cells_of_the_stand_refined(self):
        for web in edge_webs():
            for stand in some_stands(web):
                log = log_of(web, stand)
                told = walked(web, stand, log)
                self.assertEqual(oracle.cells(told), oracle.cells(refined(web, stand)))
                self.assertEqual(len(told), len(refined(web, stand)))

    def test_told_anew(self):
        self.told_anew(log_of, CHAIN, ONE_CELL)
        self.told_anew(log_of, bare(4), ONE_CELL)
        self.told_anew(log_of, Web(()), ())

    def test_goes_along_with_a_naming(self):
        for web in edge_webs():
            for naming in some_namings(len(web)):
                other = renamed(web, naming)
                for stand in some_stands(web):
                    log = log_of(web, stand)
                    led = new_stand(stand, naming)
                    self.same(log_of(other, led), log)
                    self.same(walked(other, led, log), new_stand(walked(web, stand, log), naming))


class AnyLog(Case):
    def ends(self, web, stand, met):
        """All even stands to which logs lead, each step by the program itself."""
        if stand in met:
            return
        met[stand] = True
        rows = oracle.right_rows(web, stand)
        self.assertEqual(rows == [], oracle.is_even(web, stand))
        for row in rows:
            self.ends(web, walked(web, stand, [row]), met)

    def test_all_logs_lead_to_the_cells_of_the_stand_refined(self):
        for web in small_webs():
            for stand in all_stands(len(web)) if len(web) < 4 else some_stands(web):
                met = {}
                self.ends(web, stand, met)
                wanted = oracle.cells(refined(web, stand))
                for told in met:
                    self.assertTrue(oracle.finer(refined(web, stand), told))
                    if oracle.is_even(web, told):
                        self.assertEqual(oracle.cells(told), wanted)


if __name__ == "__main__":
    unittest.main()
