"""Changes of a web (point [9])."""

import itertools
import unittest

from likewebs.changes import painted, with_arrow, with_corner, without_arrow, without_corner
from likewebs.errors import Full, NoArrow, NoCorner, NoNumber
from likewebs.webs import Web
from tests import oracle
from tests.common import Case, bare, edge_webs, few_things, full, some_web, things

GREATEST = 10 ** 9
WEB = Web((7, 8, 9), ((0, 1, 4), (1, 2, 5), (2, 1, 6)))


def wrong_corners(web, *handed):
    """The first thing that is no corner, or the second of two that are one; a list of none or one."""
    for at, thing in enumerate(handed):
        if not oracle.corner(len(web), thing) or thing in handed[:at]:
            return [thing]
    return []


class Ordinary(Case):
    def test_with_arrow(self):
        self.same(with_arrow(WEB, 0, 2), Web((7, 8, 9), ((0, 1, 4), (0, 2, 1), (1, 2, 5), (2, 1, 6))))
        self.same(with_arrow(WEB, 1, 2, mark=3), Web((7, 8, 9), ((0, 1, 4), (1, 2, 3), (2, 1, 6))))
        self.same(with_arrow(WEB, 1, 2, mark=5), WEB)
        self.same(with_arrow(WEB, 2, 0, mark=GREATEST).mark(2, 0), GREATEST)

    def test_without_arrow(self):
        self.same(without_arrow(WEB, 1, 2), Web((7, 8, 9), ((0, 1, 4), (2, 1, 6))))
        self.same(without_arrow(Web((0, 0), ((1, 0, 1),)), 1, 0), bare(2))
        self.refused(NoArrow, {"a": 1, "b": 0}, without_arrow, WEB, 1, 0)
        self.refused(NoArrow, {"a": 0, "b": 2}, without_arrow, WEB, 0, 2)

    def test_with_corner(self):
        self.same(with_corner(WEB), Web((7, 8, 9, 0), WEB.arrows))
        self.same(with_corner(WEB, colour=5), Web((7, 8, 9, 5), WEB.arrows))
        self.same(with_corner(Web(()), colour=GREATEST), Web((GREATEST,)))
        self.same(with_corner(bare(11)), bare(12))
        self.refused(Full, {}, with_corner, bare(12))
        self.refused(Full, {}, with_corner, full(12), colour=3)

    def test_without_corner(self):
        self.same(without_corner(WEB, 0), Web((8, 9), ((0, 1, 5), (1, 0, 6))))
        self.same(without_corner(WEB, 1), Web((7, 9)))
        self.same(without_corner(WEB, 2), Web((7, 8), ((0, 1, 4),)))
        self.same(without_corner(Web((3,)), 0), Web(()))
        self.same(without_corner(full(12), 5), full(11))

    def test_painted(self):
        self.same(painted(WEB, 1, 0), Web((7, 0, 9), WEB.arrows))
        self.same(painted(WEB, 0, 7), WEB)
        self.same(painted(WEB, 2, GREATEST), Web((7, 8, GREATEST), WEB.arrows))

    def test_the_first_wrong_one_is_told(self):
        self.refused(NoCorner, {"corner": 3}, with_arrow, WEB, 3, 4, mark=0)
        self.refused(NoCorner, {"corner": 4}, with_arrow, WEB, 2, 4, mark=0)
        self.refused(NoCorner, {"corner": 2}, with_arrow, WEB, 2, 2, mark=0)
        self.refused(NoCorner, {"corner": 3}, with_arrow, WEB, 3, 3)
        self.refused(NoNumber, {"number": 0}, with_arrow, WEB, 2, 1, mark=0)
        self.refused(NoCorner, {"corner": -1}, without_arrow, WEB, -1, 0)
        self.refused(NoCorner, {"corner": 1}, without_arrow, WEB, 1, 1)
        self.refused(NoCorner, {"corner": True}, without_arrow, WEB, True, 1)
        self.refused(NoCorner, {"corner": True}, without_arrow, WEB, 1, True)
        self.refused(NoNumber, {"number": -1}, with_corner, bare(12), colour=-1)
        self.refused(NoNumber, {"number": False}, with_corner, bare(12), colour=False)
        self.refused(NoCorner, {"corner": 3}, painted, WEB, 3, -1)
        self.refused(NoNumber, {"number": -1}, painted, WEB, 2, -1)
        self.refused(NoCorner, {"corner": 0}, without_corner, Web(()), 0)

    def test_bounds_of_numbers(self):
        for mark in (0, -1, GREATEST + 1, 10 ** 40, -10 ** 40, True, False, None, "1", [1], (1,), {}, WEB):
            self.refused(NoNumber, {"number": mark}, with_arrow, WEB, 0, 1, mark=mark)
        for colour in (-1, GREATEST + 1, 10 ** 40, -10 ** 40, True, False, None, "1", [1], (1,), {}, WEB):
            self.refused(NoNumber, {"number": colour}, painted, WEB, 0, colour)
            self.refused(NoNumber, {"number": colour}, with_corner, WEB, colour=colour)
        for corner in (3, -1, 12, 10 ** 40, -10 ** 40, True, False, None, "1", [1], (1,), {}, WEB):
            self.refused(NoCorner, {"corner": corner}, without_corner, WEB, corner)
            self.refused(NoCorner, {"corner": corner}, painted, WEB, corner, 1)
            self.refused(NoCorner, {"corner": corner}, with_arrow, WEB, corner, 1)
            self.refused(NoCorner, {"corner": corner}, with_arrow, WEB, 1, corner)
            self.refused(NoCorner, {"corner": corner}, without_arrow, WEB, corner, 1)
            self.refused(NoCorner, {"corner": corner}, without_arrow, WEB, 1, corner)


class Anything(Case):
    def see(self, deed, handed, named, corners, low, numbers, wanted):
        """Sees a change refused by its first wrong thing, or what wanted() tells."""
        web = handed[0]
        for thing in wrong_corners(web, *corners):
            self.refused(NoCorner, {"corner": thing}, deed, *handed, **named)
            return
        for thing in numbers:
            if not oracle.within(thing, low, GREATEST):
                self.refused(NoNumber, {"number": thing}, deed, *handed, **named)
                return
        told = wanted()
        if isinstance(told, tuple):
            self.refused(told[0], told[1], deed, *handed, **named)
        else:
            self.same(self.call(deed, *handed, **named), told)

    def see_arrow(self, web, a, b, mark):
        rows = {row[:2]: row for row in web.arrows}

        def put():
            return Web(web.colours, list({**rows, (a, b): (a, b, mark)}.values()))

        def out():
            if (a, b) not in rows:
                return (NoArrow, {"a": a, "b": b})
            return Web(web.colours, [row for row in web.arrows if row[:2] != (a, b)])

        self.see(with_arrow, (web, a, b), {"mark": mark}, (a, b), 1, (mark,), put)
        self.see(without_arrow, (web, a, b), {}, (a, b), 0, (), out)

    def see_corner(self, web, corner, colour):
        def paint():
            colours = list(web.colours)
            colours[corner] = colour
            return Web(colours, web.arrows)

        def out():
            stay = [a for a in range(len(web)) if a != corner]
            rows = [(stay.index(a), stay.index(b), mark) for a, b, mark in web.arrows if corner not in (a, b)]
            return Web([web.colours[a] for a in stay], rows)

        def enter():
            if len(web) == 12:
                return (Full, {})
            return Web(web.colours + (colour,), web.arrows)

        self.see(painted, (web, corner, colour), {}, (corner,), 0, (colour,), paint)
        self.see(without_corner, (web, corner), {}, (corner,), 0, (), out)
        self.see(with_corner, (web,), {"colour": colour}, (), 0, (colour,), enter)

    def test_right_ones(self):
        for web in edge_webs():
            for a, b in itertools.product(range(len(web)), repeat=2):
                self.see_arrow(web, a, b, 3)
            for corner in range(len(web)):
                self.see_corner(web, corner, 3)

    def test_anything(self):
        for web in (Web(()), WEB, some_web(12, 5)):
            for thing in things():
                self.see_arrow(web, thing, 1, 1)
                self.see_arrow(web, 1, thing, 1)
                self.see_arrow(web, 0, 1, thing)
                self.see_arrow(web, thing, thing, thing)
                self.see_corner(web, thing, 0)
                self.see_corner(web, 0, thing)
                self.see_corner(web, thing, thing)

    def test_several_wrong_things(self):
        for a, b, mark in itertools.product(few_things(), repeat=3):
            self.see_arrow(WEB, a, b, mark)
        for corner, colour in itertools.product(things(), repeat=2):
            self.see_corner(WEB, corner, colour)


if __name__ == "__main__":
    unittest.main()
