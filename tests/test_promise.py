"""What the document promises over the whole program, module beside module (points [1] to [4])."""

import itertools
import unittest

from likewebs.carrying import carried_row
from likewebs.covers import least
from likewebs.fitting import fits
from likewebs.forms import cover_of, form, form_naming, same_form
from likewebs.grouping import group_of
from likewebs.groups import members, size, turns
from likewebs.house import House
from likewebs.nopapers import right_no
from likewebs.refine import refined
from likewebs.registers import house_of, register_of
from likewebs.rows import row_telling
from likewebs.seeking import sought
from likewebs.stands import by_colours, finer, is_even
from likewebs.texts import read, read_web, web_text
from likewebs.things import text_of
from likewebs.twowebs import answer, namings, namings_many, right_answer
from likewebs.webs import leads, renamed
from tests import oracle
from tests.common import (
    Case, all_stands, bare, beside, chain, chance, full, knotty_webs, ring, small_webs, some_namings, some_rows,
    some_web, unlike_pairs,
)
from tests.makers import a_paper, some_covers, some_groups


def middling_webs():
    """Webs of four to six corners, some of them with twists."""
    told = [some_web(4 + seed % 3, seed, colours=1 + seed % 2, marks=1, blanks=1 + seed % 3) for seed in range(18)]
    return told + [bare(4), ring(5), full(4), chain(4), beside(ring(3), ring(3)), beside(chain(2), chain(2)), ring(6)]


class OneWeb(Case):
    """All that is told of one web fits together."""

    def test_how_many_twists(self):
        for web in middling_webs() + knotty_webs():
            for row in some_rows(len(web))[:4]:
                many = len(oracle.twists(web, row))
                self.same(size(group_of(web, row)), many)
                self.same(least(web, row, cover_of(web, row))[2], many)
                if many <= 200:
                    self.assertEqual(sorted(members(group_of(web, row))), oracle.twists(web, row))
            house = House()
            house.put("a", web)
            self.same(house.twists("a"), len(oracle.twists(web, ())))
            self.same(namings_many(web, web), house.twists("a"))
            if house.twists("a") <= 1000:
                self.same(namings(web, web), tuple(oracle.twists(web, ())))

    def test_whoever_made_a_cover_or_a_group(self):
        for web in middling_webs():
            for row in some_rows(len(web))[:3]:
                wanted = least(web, row, cover_of(web, row))
                for cover in some_covers(web, row, 2):
                    told = least(web, row, cover)
                    self.same((told[0], told[2]), (wanted[0], wanted[2]))
                for group in some_groups(web, row, 2):
                    self.same(size(group), wanted[2])
                    self.same(turns(group), turns(group_of(web, row)))
                    self.assertEqual(oracle.made_of(len(web), group[1]), oracle.made_of(len(web), group_of(web, row)[1]))

    def test_stands_refined_are_the_coarsest_that_are_even(self):
        for web in small_webs()[::40] + middling_webs()[:6:3]:
            stand = by_colours(web)
            told = refined(web, stand)
            self.assertIs(is_even(web, told), True)
            if len(web) <= 4:
                for other in all_stands(len(web)):
                    if is_even(web, other) and finer(other, stand):
                        self.assertIs(finer(other, told), True)

    def test_forms_do_not_hang_on_numbers(self):
        for web in middling_webs():
            for naming in some_namings(len(web)):
                other = renamed(web, naming)
                self.same(form(other), form(web))
                self.assertIs(leads(other, form_naming(other), form(web)), True)
                self.same(form(read_web(web_text(other))), form(web))


class TwoWebs(Case):
    """Either some naming fits or some paper of no is right, never both, and one of both is told."""

    def test_never_both(self):
        webs = middling_webs()[::2]
        papers = [a_paper(one, (), other, (), chance(1)) for one, other in unlike_pairs()[:5]] + [("unlike",)]
        for web in webs:
            for naming in some_namings(len(web))[1:3]:
                other = renamed(web, naming)
                for row in some_rows(len(web)):
                    led = carried_row(row, naming)
                    self.assertIs(fits(web, row, other, led, naming), True)
                    self.same(sought(web, row, other, led)[0], "naming")
                    self.same(row_telling(web, row), row_telling(other, led))
                    for paper in papers:
                        self.assertIs(right_no(web, row, other, led, paper), False)

    def test_one_of_both(self):
        webs = [web for web in middling_webs() if len(web) == 4]
        for one, other in itertools.product(webs, repeat=2):
            for row, other_row in itertools.product([(), (0,), (3,), (1, 2)], repeat=2):
                word, told = sought(one, row, other, other_row)
                fitting = oracle.namings(one, row, other, other_row)
                self.same(word, "naming" if fitting else "no")
                self.assertIs(fits(one, row, other, other_row, told), bool(fitting))
                self.assertIs(right_no(one, row, other, other_row, told), not fitting)

    def test_all_say_the_same(self):
        webs = middling_webs()
        for one, other in zip(webs * 2, webs[1:] + webs + webs[:1]):
            alike = bool(oracle.namings(one, (), other, ()))
            self.assertIs(same_form(one, other), alike)
            self.assertIs(namings_many(one, other) > 0, alike)
            self.assertIs(answer(one, other)[0] == "alike", alike)
            house = House()
            house.put("a", one)
            house.put("b", other)
            self.assertIs(len(house.classes()) == 1, alike)
            self.assertIs(house.find(other) == ["a", "b"], alike)
            told = read(text_of(register_of(house)))
            self.assertIs(len(told[1]) == 1, alike)
            self.same(house_of(told).classes(), house.classes())
            for by in ("early", "search", "forms"):
                self.assertIs(right_answer(one, other, read(text_of(answer(one, other, by=by)))), True)


if __name__ == "__main__":
    unittest.main()
