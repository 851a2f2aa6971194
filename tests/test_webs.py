"""Webs (points [5], [6] and [8])."""

import itertools
import unittest

from likewebs.errors import NoNaming, NoWeb
from likewebs.webs import Web, leads, renamed
from tests import oracle
from tests.common import Case, all_webs, edge_webs, few_things, full, some_namings, some_web, things, variants

GREATEST = 10 ** 9


class Made(Case):
    def made(self, colours, arrows):
        """Sees that a web is made, or refused, as the document tells."""
        told = oracle.web_parts(colours, arrows)
        if told[0] == "no":
            self.refused(NoWeb, {"at": told[1]}, Web, colours, arrows)
        else:
            web = self.call(Web, colours, arrows)
            self.same((web.colours, web.arrows), told[1:])

    def test_ordinary(self):
        web = Web([0, 5], [[1, 0, 7]])
        self.same(web.colours, (0, 5))
        self.same(web.arrows, ((1, 0, 7),))
        web = Web((3, 3, 1), [(2, 0, 4), [0, 1, 2], (0, 2, 1), [1, 0, 9]])
        self.same(web.colours, (3, 3, 1))
        self.same(web.arrows, ((0, 1, 2), (0, 2, 1), (1, 0, 9), (2, 0, 4)))

    def test_arrows_may_be_left_out(self):
        for colours in ((), [], (4,), [0] * 12):
            web = Web(colours)
            self.same(web.colours, tuple(colours))
            self.same(web.arrows, ())

    def test_bounds(self):
        self.same(Web([0] * 12).colours, (0,) * 12)
        self.same(Web([0, GREATEST]).colours, (0, GREATEST))
        self.same(Web([0, 0], [(0, 1, 1), (1, 0, GREATEST)]).arrows, ((0, 1, 1), (1, 0, GREATEST)))
        self.same(len(full(12).arrows), 132)
        for colours in ([0] * 13, (0,) * 13, [0] * 1000, [-1], [GREATEST + 1], [10 ** 40], [0, -10 ** 40], [True],
                        [0, False], ["0"], "00", {0: 0}, None, 0, Web(()), [[0]], [None], [(0,)]):
            self.refused(NoWeb, {"at": None}, Web, colours)
            self.refused(NoWeb, {"at": None}, Web, colours, [(0, 0, 0)])

    def test_arrows_that_are_no_list_or_tuple(self):
        for arrows in (None, 0, True, "", "011", {}, {(0, 1, 1): 1}, Web((0, 0))):
            self.refused(NoWeb, {"at": None}, Web, [0, 0], arrows)

    def test_wrong_rows(self):
        for row in ((0, 1, 0), (0, 1, -1), (0, 1, GREATEST + 1), (0, 1, 10 ** 40), (0, 0, 1), (1, 1, 1), (0, 2, 1),
                    (2, 0, 1), (-1, 0, 1), (0, -1, 1), (0, 1), (0, 1, 1, 1), (), (0, True, 1), (False, 1, 1),
                    (0, 1, True), None, 1, "011", {0: 0, 1: 1, 2: 1}, (0, 1, "1"), (0, 1, None), (0, (1,), 1),
                    [[0], 1, 1], Web((0, 0, 0)), (Web((0,)), 1, 1), (0, 1, Web((0,)))):
            self.refused(NoWeb, {"at": 0}, Web, [0, 0], [row])
            self.refused(NoWeb, {"at": 1}, Web, [0, 0], ((1, 0, 1), row))
            self.refused(NoWeb, {"at": 1}, Web, [0, 0], [[1, 0, 1], row, row])

    def test_rows_that_stand_there_again(self):
        self.refused(NoWeb, {"at": 1}, Web, [0, 0], [(0, 1, 1), (0, 1, 1)])
        self.refused(NoWeb, {"at": 1}, Web, [0, 0], [(0, 1, 1), [0, 1, 2]])
        self.refused(NoWeb, {"at": 2}, Web, [0, 0], [(0, 1, 1), (1, 0, 1), (0, 1, 2)])
        self.refused(NoWeb, {"at": 2}, Web, [0, 0, 0], [(0, 1, 1), (1, 0, 1), (0, 1, 2), (0, 0, 0)])
        self.refused(NoWeb, {"at": 1}, Web, [0, 0, 0], [(0, 1, 1), (0, 1, 0), (0, 1, 2)])

    def test_the_first_wrong_thing_is_told(self):
        self.refused(NoWeb, {"at": None}, Web, [True], [(0, 0, 0)])
        self.refused(NoWeb, {"at": None}, Web, [0, 0, -1], {})
        self.refused(NoWeb, {"at": 1}, Web, [0, 0], [(0, 1, 1), (9, 9, 9), (0, 1, 1), None])

    def test_no_corners(self):
        self.same(Web([], []).colours, ())
        self.refused(NoWeb, {"at": 0}, Web, [], [(0, 0, 1)])
        self.refused(NoWeb, {"at": 0}, Web, [0], [(0, 0, 1)])
        self.refused(NoWeb, {"at": 0}, Web, [0], [(0, 1, 1)])

    def test_anything(self):
        for thing in things():
            self.made(thing, ())
            self.made((0, 0), thing)
            self.made(thing, thing)

    def test_anything_at_every_place(self):
        for colours in variants((0, GREATEST, 3), things()):
            self.made(colours, ((0, 1, 5), [2, 0, 5]))
        for arrows in variants([(0, 1, 5), [2, 0, GREATEST]], things()):
            self.made((0, GREATEST, 3), arrows)
        for colours in variants((1, 2), few_things()):
            for arrows in variants([(1, 0, 1)], few_things()):
                self.made(colours, arrows)

    def test_later_changes_of_what_was_handed_in_are_not_seen(self):
        colours, row = [0, 0], [0, 1, 5]
        arrows = [row]
        web = Web(colours, arrows)
        colours[0] = 9
        row[2] = 9
        arrows.append((1, 0, 1))
        self.same((web.colours, web.arrows, web.mark(0, 1), web.mark(1, 0)), ((0, 0), ((0, 1, 5),), 5, 0))

    def test_marks(self):
        web = Web((0, 0, 0), ((0, 1, 5), (1, 0, 6), (2, 0, GREATEST)))
        self.same([[web.mark(a, b) for b in range(3)] for a in range(3)], [[0, 5, 0], [6, 0, 0], [GREATEST, 0, 0]])
        for web in edge_webs():
            marks = oracle.marks(web)
            for a, b in itertools.product(range(len(web)), repeat=2):
                self.same(web.mark(a, b), marks[a, b])


class Shown(Case):
    def test_equal(self):
        one = Web((0, 5), ((1, 0, 7), (0, 1, 2)))
        self.assertIs(one == Web([0, 5], [[0, 1, 2], [1, 0, 7]]), True)
        self.assertIs(one != Web([0, 5], [[0, 1, 2], [1, 0, 7]]), False)
        for other in (Web((0, 4), one.arrows), Web((0, 5)), Web((0, 5), ((1, 0, 7),)), Web((0, 5, 0), one.arrows),
                      Web((5, 0), one.arrows), Web((0, 5), ((1, 0, 7), (0, 1, 3))), Web(())):
            self.assertIs(one == other, False)
            self.assertIs(other == one, False)
            self.assertIs(one != other, True)
        self.assertIs(Web(()) == Web([]), True)

    def test_a_web_equals_nothing_else(self):
        for web in (Web(()), Web((0, 5), ((1, 0, 7),))):
            for thing in [thing for thing in things() if not isinstance(thing, Web)] + [
                web.colours, web.arrows, (web.colours, web.arrows), repr(web), str(web), len(web),
            ]:
                self.assertIs(web == thing, False)
                self.assertIs(thing == web, False)
                self.assertIs(web != thing, True)

    def test_equal_just_where_colours_and_arrows_are(self):
        webs = edge_webs() + [Web(web.colours, web.arrows[::-1]) for web in edge_webs()] + list(all_webs(2, 2, 2))
        for one, other in itertools.product(webs, repeat=2):
            self.assertIs(one == other, (one.colours, one.arrows) == (other.colours, other.arrows))

    def test_length(self):
        for many in range(13):
            self.same(len(Web((0,) * many)), many)
        self.same(len(full(12)), 12)

    def test_text(self):
        self.same(str(Web((0, 0, 0), ((0, 1, 1), (1, 0, 1)))), "3 corners, 2 arrows")
        self.same(str(Web((7,))), "1 corners, 0 arrows")
        self.same(str(Web(())), "0 corners, 0 arrows")
        self.same(str(Web((0, 0), ((0, 1, 9),))), "2 corners, 1 arrows")
        self.same(str(full(12)), "12 corners, 132 arrows")

    def test_repr(self):
        self.same(repr(Web([0, 5], [[1, 0, 7]])), "Web((0, 5), ((1, 0, 7),))")
        self.same(repr(Web(())), "Web((), ())")
        self.same(repr(Web((3,))), "Web((3,), ())")
        self.same(repr(Web((3, 4), ((1, 0, 1), (0, 1, 2)))), "Web((3, 4), ((0, 1, 2), (1, 0, 1)))")


class Renamed(Case):
    def test_ordinary(self):
        web = Web((7, 8, 9), ((0, 1, 4), (1, 2, 5)))
        self.same(renamed(web, (1, 2, 0)), Web((9, 7, 8), ((1, 2, 4), (2, 0, 5))))
        self.same(renamed(web, (0, 1, 2)), web)
        self.same(renamed(Web(()), ()), Web(()))
        told = renamed(web, (1, 2, 0))
        self.same([told.mark(1, 2), told.mark(2, 0), told.mark(2, 1), told.mark(0, 1)], [4, 5, 0, 0])

    def test_as_the_document_tells(self):
        for web in edge_webs():
            for naming in some_namings(len(web)):
                told = self.call(renamed, web, naming)
                self.assertIs(type(told), Web)
                self.same((told.colours, told.arrows), oracle.renamed_parts(web, naming))

    def test_anything(self):
        web = Web((7, 8, 9), ((0, 1, 4), (1, 2, 5)))
        for thing in things() + list(variants((1, 2, 0), few_things())):
            if oracle.is_naming(3, thing):
                self.same(renamed(web, thing), Web(*oracle.renamed_parts(web, thing)))
            else:
                self.refused(NoNaming, {}, renamed, web, thing)
        for thing in things():
            if thing != () or type(thing) is not tuple:
                self.refused(NoNaming, {}, renamed, Web(()), thing)


class Leads(Case):
    def test_ordinary(self):
        web = Web((7, 8, 9), ((0, 1, 4), (1, 2, 5)))
        other = Web((9, 7, 8), ((1, 2, 4), (2, 0, 5)))
        self.assertIs(leads(web, (1, 2, 0), other), True)
        self.assertIs(leads(other, (2, 0, 1), web), True)
        self.assertIs(leads(other, (1, 2, 0), web), False)
        self.assertIs(leads(web, [1, 2, 0], other), False)
        self.assertIs(leads(web, (1, 2, 0), Web((9, 7, 8))), False)
        self.assertIs(leads(web, (1, 2, 0), Web((0, 7, 8), other.arrows)), False)
        self.assertIs(leads(web, (1, 2, 0), Web((9, 7, 8, 0), other.arrows)), False)
        self.assertIs(leads(Web(()), (), Web(())), True)
        self.assertIs(leads(Web(()), [], Web(())), False)
        self.assertIs(leads(Web((0, 0)), (False, True), Web((0, 0))), False)
        self.assertIs(leads(Web((0, 0)), (0, 1, 2), Web((0, 0, 0))), False)
        self.assertIs(leads(Web((0, 0, 0)), (0, 1), Web((0, 0))), False)

    def test_all_namings(self):
        webs = [some_web(3, seed, colours=1, marks=1, blanks=1) for seed in range(12)]
        for web, other in itertools.product(webs, repeat=2):
            for naming in itertools.permutations(range(3)):
                wanted = oracle.renamed_parts(web, naming) == (other.colours, other.arrows)
                self.assertIs(self.call(leads, web, naming, other), wanted)

    def test_anything(self):
        web = Web((0, 0, 0), ((0, 1, 4), (1, 2, 4), (2, 0, 4)))
        for thing in things() + list(variants((1, 2, 0), few_things())):
            wanted = oracle.is_naming(3, thing) and oracle.renamed_parts(web, thing) == (web.colours, web.arrows)
            self.assertIs(self.call(leads, web, thing, web), wanted)
            self.assertIs(leads(Web(()), thing, Web(())), type(thing) is tuple and len(thing) == 0)


if __name__ == "__main__":
    unittest.main()
