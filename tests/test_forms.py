"""Forms, and covers told of any web and row (points [39], [42] and [4])."""

import itertools
import unittest

from likewebs.covers import carried_cover, least, right_cover
from likewebs.errors import NoRow, TooMany
from likewebs.forms import cover_of, form, form_naming, same_form
from likewebs.leaves import leaves, naming_by
from likewebs.rows import row_stand, worth
from likewebs.webs import Web, leads, renamed
from tests import oracle
from tests.common import (
    Case, all_rows, all_webs, around, bare, beside, chain, edge_webs, full, great_webs, in_time, knotty_webs, ring,
    small_webs, some_namings, some_rows, some_web, things, told_elsewhere, unlike_pairs, variants,
)
from tests.makers import some_covers


class CoverOf(Case):
    def look(self, web, row):
        cover = self.call(cover_of, web, row)
        self.assertIs(right_cover(web, row, cover), True)
        wanted = oracle.cover_told(web, row, cover)
        self.same(least(web, row, cover), wanted)
        self.same(wanted[2], len(oracle.twists(web, row)))
        self.same(cover_of(web, row), cover)
        return wanted

    def test_ordinary(self):
        self.same(cover_of(Web(())), ("leaf",))
        self.same(cover_of(Web((9,))), ("leaf",))
        self.same(cover_of(Web((9,)), (0,)), ("leaf",))
        self.same(cover_of(chain(12)), ("leaf",))
        self.same(cover_of(bare(2), (1,)), ("leaf",))
        self.same(cover_of(bare(12), tuple(range(12))), ("leaf",))
        self.same(cover_of(bare(2)), cover_of(bare(2), ()))
        self.same(least(bare(2), (), cover_of(bare(2)))[2], 2)
        self.same(least(bare(3), (1,), cover_of(bare(3), (1,)))[2], 2)

    def test_few_corners(self):
        for web in small_webs()[::5]:
            for row in all_rows(len(web))[::2]:
                self.look(web, row)

    def test_all_right_covers_tell_the_same(self):
        for web in edge_webs()[:12] + knotty_webs():
            for row in some_rows(len(web))[:3]:
                told = self.look(web, row)
                for cover in some_covers(web, row, 2):
                    other = least(web, row, cover)
                    self.same((other[0], other[2]), (told[0], told[2]))

    def test_rows_that_are_not_good(self):
        web = beside(ring(3), ring(4))
        for row in ((0,), (0, 3), (1, 2), (2, 6, 0)):
            self.look(web, row)

    def test_only_one_of_those_that_twists_send_to_one_another_is_gone_into(self):
        def few_down(web, row, cover):
            if cover != ("leaf",):
                down = [kid[0] for kid in cover[1] if kid[1] == "down"]
                for twist in oracle.twists(web, row):
                    self.assertFalse([x for x in down if twist[x] != x and twist[x] in down])
                for kid in cover[1]:
                    if kid[1] == "down":
                        few_down(web, row + (kid[0],), kid[2])

        for web in knotty_webs():
            few_down(web, (), cover_of(web))

    def test_anything_that_is_no_row(self):
        for thing in variants((2, 0), things()):
            if not oracle.is_row(3, thing):
                self.refused(NoRow, {}, cover_of, ring(3), thing)
                self.refused(NoRow, {}, cover_of, ring(3), row=thing)
        self.refused(NoRow, {}, cover_of, Web(()), (0,))


class Form(Case):
    def look(self, web):
        told = self.call(form, web)
        naming = self.call(form_naming, web)
        self.assertIs(type(told), Web)
        self.assertTrue(oracle.is_naming(len(web), naming))
        self.assertEqual(oracle.renamed_parts(web, naming), (told.colours, told.arrows))
        self.assertIs(leads(web, naming, told), True)
        self.same(form(web), told)
        self.same(form_naming(web), naming)
        return told

    def test_ordinary(self):
        self.same(form(Web(())), Web(()))
        self.same(form_naming(Web(())), ())
        self.same(form(Web((3,))), Web((3,)))
        self.same(form_naming(Web((3,))), (0,))
        self.same(form(Web((5, 0))), Web((0, 5)))
        self.same(form_naming(Web((5, 0))), (1, 0))
        self.same(form(bare(12)), bare(12))
        self.same(form(full(12)), full(12))
        self.same(form(chain(3)), Web((0, 0, 0), ((1, 2, 1), (2, 0, 1))))
        self.same(form_naming(chain(4)), naming_by(row_stand(chain(4), ())))

    def test_renamed_by_a_leaf_of_the_least_worth(self):
        for web in edge_webs() + knotty_webs() + small_webs()[::9]:
            try:
                rows = leaves(web, most=150)
            except TooMany:
                continue
            worths = [worth(web, row) for row in rows]
            best = [row for row, told in zip(rows, worths) if told == min(worths)]
            told = self.look(web)
            for row in best:
                self.same(renamed(web, naming_by(row_stand(web, row))), told)
            self.assertIn(form_naming(web), [naming_by(row_stand(web, row)) for row in best])

    def test_some_leaves_are_not_the_least(self):
        # So that the test above has something to tell.
        many = 0
        for web in knotty_webs():
            try:
                many += len({worth(web, row) for row in leaves(web)}) > 1
            except TooMany:
                pass
        self.assertGreater(many, 0)

    def test_does_not_hang_on_how_corners_are_numbered(self):
        for web in edge_webs() + knotty_webs() + great_webs()[:4]:
            told = self.look(web)
            for naming in some_namings(len(web)):
                self.same(form(renamed(web, naming)), told)

    def test_the_form_of_a_form(self):
        for web in edge_webs() + knotty_webs():
            self.same(form(form(web)), form(web))

    def test_all_orders_of_few_corners(self):
        for web in small_webs()[300::11]:
            told = form(web)
            for naming in itertools.permutations(range(len(web))):
                self.same(form(renamed(web, naming)), told)


class EqualForms(Case):
    """Two webs have equal forms just where a naming leads the one to the other."""

    def look(self, webs):
        forms = [form(web) for web in webs]
        for (one, told), (other, other_told) in itertools.combinations_with_replacement(list(zip(webs, forms)), 2):
            alike = bool(oracle.namings(one, (), other, ()))
            self.assertIs(told == other_told, alike)

    def test_all_webs_of_few_corners(self):
        self.look([web for many in range(3) for web in all_webs(many, 2, 2)])
        self.look(list(all_webs(3, 1, 1)))
        self.look(list(all_webs(3, 1, 2))[::7])

    def test_four_corners(self):
        self.look(small_webs()[-29:] + [some_web(4, seed, colours=1, marks=1, blanks=1) for seed in range(60)])

    def test_same_form(self):
        webs = list(all_webs(2, 1, 2)) + [Web(()), Web((0,)), Web((1,))]
        for one, other in itertools.product(webs, repeat=2):
            self.assertIs(self.call(same_form, one, other), bool(oracle.namings(one, (), other, ())))
        for one, other in unlike_pairs():
            self.assertIs(self.call(same_form, one, other), False)
            self.assertIs(same_form(other, one), False)
            for naming in some_namings(len(one))[1:3]:
                self.assertIs(same_form(one, renamed(one, naming)), True)

    def test_great_webs(self):
        for one, other in itertools.combinations([form(web) for web in great_webs()], 2):
            self.assertNotEqual(one, other)


class GreatWebs(Case):
    def test_in_a_few_seconds(self):
        for web in great_webs():
            cover = in_time(self, cover_of, web)
            self.assertIs(in_time(self, right_cover, web, (), cover), True)
            told = in_time(self, form, web)
            self.assertIs(leads(web, in_time(self, form_naming, web), told), True)
            naming = some_namings(12)[-1]
            self.same(in_time(self, form, renamed(web, naming)), told)
            self.assertIs(right_cover(renamed(web, naming), (), carried_cover(cover, naming)), True)

    def test_sizes(self):
        for web, wanted in ((bare(12), 479001600), (full(12), 479001600), (ring(12), 12), (chain(12), 1),
                            (around(ring(5), ring(5)), 50), (beside(*[full(4)] * 3), 82944)):
            self.same(least(web, (), cover_of(web))[2], wanted)


class TheSameEachTime(Case):
    def test_in_another_run(self):
        told = told_elsewhere(
            "from likewebs.forms import cover_of, form, form_naming",
            "for web in knotty_webs() + great_webs()[:6]:",
            "    print(cover_of(web), repr(form(web)), form_naming(web))",
        )
        self.assertEqual(told[0], told[1])
        self.assertTrue(told[0])


if __name__ == "__main__":
    unittest.main()
