"""Covers (points [40], [41] and [43])."""

import itertools
import unittest

from likewebs.carrying import carried_row
from likewebs.covers import carried_cover, least, right_cover
from likewebs.errors import NoCover, NoRow
from likewebs.leaves import leaves
from likewebs.namings import back, stays
from likewebs.rows import kids, worth
from likewebs.webs import Web, renamed
from tests import oracle
from tests.common import (
    OTHER_WHEEL, TRIANGLES, WHEEL, Case, all_rows, around, bare, beside, chain, chance, edge_webs, few_things, full,
    knotty_webs, picture, ring, signed, small_webs, some_namings, some_rows, some_web, things, variants,
)
from tests.makers import a_cover, mixed, some_covers

LEAF = ("leaf",)
# A ring of three and one of four: the corners of the first are left.
RINGS = beside(ring(3), ring(4))
WORDS = ["leaf", "branch", "left", "down", "turned", "Leaf", "no", "leaf "]


def exchange(many, a, b):
    """The naming that exchanges two corners."""
    told = list(range(many))
    told[a], told[b] = b, a
    return tuple(told)


def steps_down(many, row=()):
    """A right cover of a web whose corners are all alike to one another, the last corner always down."""
    cell = [x for x in range(many) if x not in row]
    if len(cell) < 2:
        return LEAF
    z = cell[-1]
    told = [(x, "turned", z, exchange(many, x, z)) for x in cell[:-1]]
    return ("branch", tuple(told + [(z, "down", steps_down(many, row + (z,)))]))


class Looks(Case):
    """Sees right_cover and least tell the same of a thing."""

    def judge(self, web, row, thing, wanted):
        """Sees whether the thing is right, with what it tells: a tuple, or None where it isn't right."""
        self.assertIs(self.call(right_cover, web, row, thing), wanted is not None)
        if wanted is None:
            self.refused(NoCover, {}, least, web, row, thing)
        else:
            self.same(self.call(least, web, row, thing), wanted)

    def wrong(self, web, row, thing):
        self.assertIs(oracle.cover_told(web, row, thing), None)
        self.judge(web, row, thing, None)

    def right(self, web, row, thing, least_row, size):
        wanted = (worth(web, least_row), least_row, size)
        self.same(oracle.cover_told(web, row, thing), wanted)
        self.judge(web, row, thing, wanted)


class Leaf(Looks):
    def test_right(self):
        self.right(Web(()), (), LEAF, (), 1)
        self.right(Web((4,)), (), LEAF, (), 1)
        self.right(Web((4,)), (0,), LEAF, (0,), 1)
        self.right(chain(12), (), LEAF, (), 1)
        self.right(bare(2), (1,), LEAF, (1,), 1)
        self.right(bare(12), tuple(range(12)), LEAF, tuple(range(12)), 1)
        self.right(full(12), tuple(range(11)), LEAF, tuple(range(11)), 1)

    def test_a_leaf_where_there_is_a_target(self):
        for web, row in ((bare(2), ()), (ring(3), ()), (bare(3), (1,)), (full(12), ()), (full(12), tuple(range(10)))):
            self.wrong(web, row, LEAF)

    def test_a_branch_where_there_is_none(self):
        for web, row in ((Web(()), ()), (Web((0,)), ()), (chain(3), ()), (bare(2), (0,)), (ring(12), (4,))):
            for thing in (("branch", ()), ("branch", ((0, "down", LEAF),)), ("branch",), ("branch", ((0, "left"),))):
                self.wrong(web, row, thing)


class Branch(Looks):
    def test_two(self):
        for x, z in ((0, 1), (1, 0)):
            down, turned = (z, "down", LEAF), (x, "turned", z, (1, 0))
            # A kid may be turned to one that stands behind it.
            self.right(bare(2), (), ("branch", (down, turned)), (z,), 2)
            self.right(bare(2), (), ("branch", (turned, down)), (z,), 2)

    def test_kids_in_every_order(self):
        for web, row in ((bare(3), ()), (ring(3), ()), (bare(4), (1,)), (RINGS, (3,)), (RINGS, (0,)), (ring(4), ())):
            cover = a_cover(web, row, chance(5))
            wanted = oracle.cover_told(web, row, cover)
            for told in itertools.permutations(cover[1]):
                self.judge(web, row, ("branch", told), wanted)

    def test_all_corners_alike(self):
        for web in (bare(5), full(5), bare(12), full(12)):
            many, size = len(web), 1
            for number in range(1, many + 1):
                size *= number
            row = tuple(range(many))[:0:-1]
            self.judge(web, (), steps_down(many), (worth(web, row), row, size))

    def test_ring_of_twelve(self):
        corners = tuple(range(12))
        told = [(x, "turned", 7, corners[(x - 7) % 12:] + corners[:(x - 7) % 12]) for x in corners if x != 7]
        for at in (0, 7, 11):
            cover = ("branch", tuple(told[:at] + [(7, "down", LEAF)] + told[at:]))
            self.judge(ring(12), (), cover, (worth(ring(12), (7,)), (7,), 12))

    def test_left_ones(self):
        kept, left = kids(RINGS, ())
        self.same((kept, left), ([3, 4, 5, 6], [0, 1, 2]))
        cover = a_cover(RINGS, (), chance(1))
        self.right(RINGS, (), cover, least(RINGS, (), cover)[1], 12)
        down = [kid for kid in cover[1] if kid[1] == "down"][0]
        rest = tuple(kid for kid in cover[1] if kid[0] != 0)
        self.right(RINGS, (), ("branch", rest + ((0, "left"),)), least(RINGS, (), cover)[1], 12)
        # One that is left, told as down with a cover that is right for the longer row.
        inner = a_cover(RINGS, (0,), chance(1))
        self.assertIs(right_cover(RINGS, (0,), inner), True)
        self.wrong(RINGS, (), ("branch", rest + ((0, "down", inner),)))
        # One that is left, told as turned.
        self.wrong(RINGS, (), ("branch", rest + ((0, "turned", down[0], stays(7)),)))
        # One that is kept, told as left.
        for kid in cover[1]:
            if kid[1] != "left":
                rest = tuple(other for other in cover[1] if other != kid)
                self.wrong(RINGS, (), ("branch", rest + ((kid[0], "left"),)))

    def test_all_left(self):
        self.wrong(bare(2), (), ("branch", ((0, "left"), (1, "left"))))

    def test_a_kid_twice_and_one_that_lacks(self):
        for web, row in ((bare(3), ()), (RINGS, ()), (ring(4), ())):
            cover = a_cover(web, row, chance(2))
            for at, kid in enumerate(cover[1]):
                self.wrong(web, row, ("branch", cover[1] + (kid,)))
                self.wrong(web, row, ("branch", cover[1][:at] + (kid,) + cover[1][at:]))
                self.wrong(web, row, ("branch", cover[1][:at] + cover[1][at + 1:]))
                self.wrong(web, row, ("branch", cover[1][:at] + cover[1][at + 1:] + (cover[1][at - 1],)))

    def test_a_corner_of_another_cell(self):
        web = Web((0, 0, 1, 1))
        cover = a_cover(web, (), chance(1))
        self.wrong(web, (), ("branch", cover[1] + ((2, "left"),)))
        self.wrong(web, (), ("branch", cover[1] + ((2, "turned", 0, stays(4)),)))
        self.wrong(web, (), ("branch", tuple((kid[0] + 2,) + kid[1:] for kid in cover[1])))

    def test_turned_to_one_that_is_not_down(self):
        down = (0, "down", ("branch", ((1, "down", LEAF), (2, "turned", 1, (0, 2, 1)))))
        turned = (1, "turned", 0, (1, 0, 2))
        self.right(bare(3), (), ("branch", (down, turned, (2, "turned", 0, (2, 1, 0)))), (0, 1), 6)
        # Turned to one that is turned, to itself, to one of another cell, to no corner, to a truth.
        self.wrong(bare(3), (), ("branch", (down, turned, (2, "turned", 1, (0, 2, 1)))))
        self.wrong(bare(3), (), ("branch", (down, turned, (2, "turned", 2, (0, 1, 2)))))
        self.wrong(bare(3), (), ("branch", (down, turned, (2, "turned", 3, (2, 1, 0)))))
        self.wrong(bare(3), (), ("branch", (down, turned, (2, "turned", -1, (2, 1, 0)))))
        self.wrong(bare(3), (), ("branch", (down, turned, (2, "turned", False, (2, 1, 0)))))
        self.wrong(bare(3), (), ("branch", ((0, "turned", 0, (0, 1, 2)), turned, (2, "turned", 0, (2, 1, 0)))))
        # Turned to one that is left.
        cover = a_cover(RINGS, (), chance(3))
        for kid in cover[1]:
            if kid[1] == "turned":
                rest = tuple(other for other in cover[1] if other != kid)
                self.wrong(RINGS, (), ("branch", rest + ((kid[0], "turned", 0, kid[3]),)))

    def test_turned_to_itself(self):
        for web in (bare(2), bare(3), ring(4)):
            cover = a_cover(web, (), chance(4))
            for at, kid in enumerate(cover[1]):
                itself = (kid[0], "turned", kid[0], stays(len(web)))
                self.wrong(web, (), ("branch", cover[1][:at] + (itself,) + cover[1][at + 1:]))

    def test_wrong_twists(self):
        web = bare(4)
        down = (1, "down", ("branch", ((2, "down", LEAF), (3, "turned", 2, (0, 1, 3, 2)))))
        row = (0,)
        for twist, right in (
            ((0, 2, 1, 3), True), ((0, 2, 3, 1), True),
            # It sends z elsewhere, it does not keep the row, it is no naming.
            ((0, 1, 2, 3), False), ((0, 3, 1, 2), False), ((3, 2, 1, 0), False), ((0, 2, 1), False),
            ((0, 2, 1, 3, 4), False), ([0, 2, 1, 3], False), ((False, 2, 1, 3), False), ((0, 2, True, 3), False),
            ((0, 2, 2, 3), False), (None, False), ("0213", False),
        ):
            kids_told = (down, (2, "turned", 1, twist), (3, "turned", 1, (0, 3, 2, 1)))
            self.assertIs(right_cover(web, row, ("branch", kids_told)), right)
            if not right:
                self.wrong(web, row, ("branch", kids_told))
        # It keeps the row but not the web.
        told = (0, "down", LEAF), (1, "turned", 0, (1, 2, 0)), (2, "turned", 0, (2, 0, 1))
        self.right(ring(3), (), ("branch", told), (0,), 3)
        self.wrong(ring(3), (), ("branch", told[:2] + ((2, "turned", 0, (2, 1, 0)),)))

    def test_two_that_are_down_with_the_same_least_worth(self):
        self.wrong(bare(2), (), ("branch", ((0, "down", LEAF), (1, "down", LEAF))))
        self.wrong(ring(3), (), ("branch", ((0, "down", LEAF), (1, "down", LEAF), (2, "turned", 0, (2, 0, 1)))))
        self.wrong(ring(3), (), ("branch", ((0, "down", LEAF), (1, "down", LEAF), (2, "turned", 1, (1, 2, 0)))))
        for web in (TRIANGLES, WHEEL, bare(3), RINGS):
            cover = a_cover(web, (), chance(6))
            for at, kid in enumerate(cover[1]):
                if kid[1] == "turned":
                    inner = a_cover(web, (kid[0],), chance(7))
                    again = (kid[0], "down", inner)
                    self.assertIs(right_cover(web, (kid[0],), inner), True)
                    self.wrong(web, (), ("branch", cover[1][:at] + (again,) + cover[1][at + 1:]))

    def test_two_that_are_down_with_unlike_worths(self):
        best = []
        for web in (around(WHEEL, OTHER_WHEEL, 1), around(OTHER_WHEEL, WHEEL, 1)):
            self.same(kids(web, ()), ([0, 1], []))
            cover = a_cover(web, (), chance(8))
            self.same(sorted(kid[:2] for kid in cover[1]), [(0, "down"), (1, "down")])
            below = {kid[0]: least(web, (kid[0],), kid[2]) for kid in cover[1]}
            best.append(min(below, key=lambda x: below[x][0]))
            # It is that of the one whose least worth is least, wherever it stands.
            for told in (cover[1], cover[1][::-1]):
                self.judge(web, (), ("branch", told), below[best[-1]])
            self.same(below[best[-1]][2], len(oracle.twists(web, ())))
            self.assertNotEqual(below[0][0], below[1][0])
        self.same(sorted(best), [0, 1])

    def test_only_those_turned_to_the_best_one_are_counted(self):
        web = signed([(0, 1)])
        self.same(kids(web, ()), ([0, 1, 2, 3], []))
        for seed in range(2):
            cover = a_cover(web, (), chance(seed))
            self.same(sorted(kid[1] for kid in cover[1]), ["down", "down", "turned", "turned"])
            wanted = oracle.cover_told(web, (), cover)
            self.judge(web, (), cover, wanted)
            self.same(wanted[2], len(oracle.twists(web, ())))
            # A third one that is down has the same least worth as another one, which need not stand beside it.
            for at, kid in enumerate(cover[1]):
                if kid[1] == "turned":
                    again = (kid[0], "down", a_cover(web, (kid[0],), chance(seed)))
                    told = cover[1][:at] + (again,) + cover[1][at + 1:]
                    for mixed_told in itertools.permutations(told):
                        self.judge(web, (), ("branch", mixed_told), None)

    def test_a_wrong_cover_below(self):
        inner = ("branch", ((1, "down", LEAF), (2, "turned", 1, (0, 2, 1))))
        rest = ((1, "turned", 0, (1, 0, 2)), (2, "turned", 0, (2, 1, 0)))
        self.right(bare(3), (), ("branch", ((0, "down", inner),) + rest), (0, 1), 6)
        for thing in (LEAF, ("branch", ()), None, (), "leaf", ["leaf"], ("branch", inner[1][:1]), inner[1]):
            self.wrong(bare(3), (), ("branch", ((0, "down", thing),) + rest))


class RowsThatAreNotGood(Looks):
    def test_they_have_covers(self):
        self.assertNotIn(0, kids(RINGS, ())[0])
        for row in ((0,), (0, 3), (1, 2)):
            for cover in some_covers(RINGS, row):
                told = least(RINGS, row, cover)
                self.same(told, oracle.cover_told(RINGS, row, cover))
                self.same(told[2], len(oracle.twists(RINGS, row)))
                self.same(told[1][:len(row)], row)


class Anything(Looks):
    def odd(self, many):
        told = few_things() + WORDS + [3, LEAF, ("branch", ()), (0, "left"), (1, "left")]
        return told + [stays(many), stays(many)[::-1]]

    def test_at_every_place_and_depth(self):
        for web, row, seed in ((Web(()), (), 0), (Web((1,)), (0,), 0), (bare(2), (), 1), (ring(3), (), 2),
                               (bare(3), (1,), 3), (bare(3), (), 4), (RINGS, (3,), 5), (RINGS, (), 6)):
            cover = a_cover(web, row, chance(seed))
            for thing in variants(cover, self.odd(len(web))):
                self.judge(web, row, thing, oracle.cover_told(web, row, thing))

    def test_things(self):
        for web, row in ((Web(()), ()), (Web((1,)), ()), (bare(2), ()), (bare(2), (1,)), (full(12), ())):
            for thing in things():
                self.wrong(web, row, thing)
                self.wrong(web, row, ("branch", thing))
                self.wrong(web, row, ("branch", (thing,)))
                self.wrong(web, row, (thing,))
                self.wrong(web, row, ("leaf", thing))

    def test_truths_are_no_numbers(self):
        cover = ("branch", ((0, "down", LEAF), (1, "turned", 0, (1, 0))))
        self.right(bare(2), (), cover, (0,), 2)
        for thing in (((False, "down", LEAF), cover[1][1]), (cover[1][0], (True, "turned", 0, (1, 0))),
                      (cover[1][0], (1, "turned", False, (1, 0))), (cover[1][0], (1, "turned", 0, (True, 0))),
                      (cover[1][0], (1, "turned", 0, (1, False)))):
            self.wrong(bare(2), (), ("branch", thing))


class NoRows(Case):
    def test_refused_ahead_of_all_else(self):
        for thing in variants((2, 0), things()):
            if not oracle.is_row(3, thing):
                for cover in (LEAF, None, thing):
                    self.refused(NoRow, {}, right_cover, ring(3), thing, cover)
                    self.refused(NoRow, {}, least, ring(3), thing, cover)


class Tells(Case):
    def test_few_corners(self):
        for web in small_webs()[::6]:
            for row in all_rows(len(web)):
                for cover in some_covers(web, row, 2):
                    told = self.call(least, web, row, cover)
                    self.same(told, oracle.cover_told(web, row, cover))
                    self.same(told[2], len(oracle.twists(web, row)))

    def test_the_least_of_the_worths_of_all_leaves(self):
        for web in small_webs()[::6] + knotty_webs()[:4]:
            for leaf in leaves(web, most=200)[:6]:
                for many in range(len(leaf) + 1):
                    row = leaf[:many]
                    begun = [other for other in leaves(web, most=200) if other[:many] == row]
                    wanted = min(worth(web, other) for other in begun)
                    for cover in some_covers(web, row, 2):
                        told = least(web, row, cover)
                        self.same(told[0], wanted)
                        self.assertIn(told[1], begun)
                        self.same(worth(web, told[1]), wanted)

    def test_all_right_covers_tell_the_same_worth_and_size(self):
        for web in knotty_webs():
            told = [least(web, (), cover) for cover in some_covers(web, (), 4)]
            for worth_told, row, size in told:
                self.same((worth_told, size), (told[0][0], told[0][2]))
                self.same(size, len(oracle.twists(web, ())))
                self.same(worth_told, oracle.least_worth(web, ()))
                self.same(worth(web, row), worth_told)

    def test_the_same_each_time_and_kinds(self):
        for web in edge_webs()[:12]:
            cover = a_cover(web, (), chance(9))
            told = least(web, (), cover)
            self.same(least(web, (), cover), told)
            self.assertIs(type(told), tuple)
            self.assertEqual([type(part) for part in told], [tuple, tuple, int])


class Carried(Case):
    def test_ordinary(self):
        self.same(carried_cover(LEAF, ()), LEAF)
        self.same(carried_cover(LEAF, (1, 0)), LEAF)
        cover = ("branch", ((0, "down", LEAF), (1, "turned", 0, (1, 2, 0)), (2, "turned", 0, (2, 0, 1))))
        wanted = ("branch", ((2, "down", LEAF), (1, "turned", 2, (2, 0, 1)), (0, "turned", 2, (1, 2, 0))))
        self.same(self.call(carried_cover, cover, (2, 1, 0)), wanted)
        inner = ("branch", ((0, "down", LEAF), (1, "turned", 0, (1, 2, 0, 3)), (2, "turned", 0, (2, 0, 1, 3))))
        wanted = ("branch", ((1, "down", LEAF), (2, "turned", 1, (0, 2, 3, 1)), (3, "turned", 1, (0, 3, 1, 2))))
        wanted = ("branch", ((0, "left"), (1, "down", wanted)))
        self.same(carried_cover(("branch", ((3, "left"), (0, "down", inner))), (1, 2, 3, 0)), wanted)

    def look(self, web, row, cover, naming):
        other, led = renamed(web, naming), carried_row(row, naming)
        told = self.call(carried_cover, cover, naming)
        one, new = least(web, row, cover), least(other, led, told)
        self.same((new[0], new[2]), (one[0], one[2]))
        self.same(new[1], carried_row(one[1], naming))
        self.same(carried_cover(told, back(naming)), cover)

    def test_right_where_it_was_right(self):
        for web in edge_webs()[:8] + knotty_webs()[:8] + small_webs()[::25]:
            for row in some_rows(len(web))[:4]:
                for cover in some_covers(web, row, 2):
                    for naming in some_namings(len(web)):
                        self.look(web, row, cover, naming)

    def test_twelve_corners(self):
        for web in (bare(12), full(12)):
            for naming in some_namings(12)[2:]:
                self.look(web, (), steps_down(12), naming)

    def test_not_right_where_it_was_not(self):
        webs = [bare(3), ring(3), full(3), Web((0, 0, 1)), Web((0, 1, 0)), some_web(3, 5)]
        places = [(web, row) for web in webs for row in ((), (0,), (2,), (1, 0))]
        for home, home_row in places:
            cover = a_cover(home, home_row, chance(3))
            for (web, row), naming in itertools.product(places, itertools.permutations(range(3))):
                other, led = renamed(web, naming), carried_row(row, naming)
                wanted = right_cover(web, row, cover)
                self.assertIs(wanted, oracle.cover_told(web, row, cover) is not None)
                self.assertIs(right_cover(other, led, carried_cover(cover, naming)), wanted)

    def test_kids_stay_in_their_order(self):
        for seed in range(6):
            cover = a_cover(bare(4), (), chance(seed))
            cover = ("branch", tuple(mixed(chance(seed), cover[1])))
            told = carried_cover(cover, (1, 2, 3, 0))
            self.same([kid[0] for kid in told[1]], [(kid[0] + 1) % 4 for kid in cover[1]])
            self.same([kid[1] for kid in told[1]], [kid[1] for kid in cover[1]])

    def test_nothing_changed(self):
        for web in knotty_webs()[:6]:
            cover = a_cover(web, (), chance(2))
            ahead = picture(cover)
            self.same(carried_cover(cover, stays(len(web))), cover)
            self.assertEqual(picture(cover), ahead)


if __name__ == "__main__":
    unittest.main()
