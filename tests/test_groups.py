"""Sizes, ways, words, members and turns of groups, and groups carried (points [32] to [37], and [4])."""

import itertools
import math
import unittest

from likewebs.carrying import carried_row, carried_twist
from likewebs.errors import NoMember, NotReached, NoTwist, NoWord
from likewebs.grouping import group_of, right_group
from likewebs.groups import (
    carried_group, made, member, members, number_of, size, turns, way, word_of,
)
from likewebs.namings import back, stays, then
from likewebs.webs import Web, renamed
from tests import oracle
from tests.common import (
    OTHER_WHEEL, WHEEL, Case, all_rows, all_webs, around, bare, beside, chain, chance, edge_webs, few_things, full,
    great_webs, in_time, knotty_webs, ring, signed, small_webs, some_namings, some_rows, some_web, things,
    told_elsewhere, variants,
)
from tests.makers import mixed, some_groups

TURN = (1, 2, 3, 0)
SQUARE = (4, (TURN,), ((0, ((1, 0, 0), (2, 1, 0), (3, 2, 0)), ()),))
# The same square, by other steps, with twists that nobody needs.
BOTH_WAYS = (4, (stays(4), (3, 0, 1, 2), TURN, TURN), ((2, ((1, 2, 1), (3, 2, 3), (0, 1, 1)), ()),))
# All twists of three corners.
THREE = (3, ((0, 2, 1), (1, 2, 0)), ((0, ((1, 0, 1), (2, 1, 1)), ()), (1, ((2, 1, 0),), ())))
NOTHING = [(Web(()), (), (0, (), ())), (Web((8,)), (0,), (1, ((0,), (0,)), ())), (bare(12), stays(12), (12, (), ()))]


def told_and_others(web, row, many=2):
    """The told group of a web and a row, and others that are right."""
    return [group_of(web, row)] + some_groups(web, row, many)


def told_groups():
    """Webs, rows and groups: told ones and others."""
    told = list(NOTHING)
    for web in edge_webs()[:12] + knotty_webs():
        for row in some_rows(len(web))[:4]:
            told += [(web, row, group) for group in told_and_others(web, row)]
    return told


class Size(Case):
    def test_ordinary(self):
        self.same(size((0, (), ())), 1)
        self.same(size(SQUARE), 4)
        self.same(size(BOTH_WAYS), 4)
        self.same(size(THREE), 6)
        all_orders = math.factorial(12)
        for web, wanted in ((Web(()), 1), (Web((3,)), 1), (bare(12), all_orders), (full(12), all_orders),
                            (ring(12), 12), (chain(12), 1), (around(ring(5), ring(5)), 50), (beside(ring(3), ring(3)), 18),
                            (beside(*[full(2)] * 6), 2 ** 6 * 720), (beside(*[ring(3)] * 4), 3 ** 4 * 24)):
            self.same(self.call(size, group_of(web)), wanted)

    def test_the_number_of_the_twists_that_keep_the_row(self):
        for web, row, group in told_groups():
            if row or len(web) < 12:
                self.same(self.call(size, group), len(oracle.twists(web, row)))

    def test_rows_of_all_corners(self):
        for web in (bare(12), full(12), ring(5), Web(())):
            self.same(size(group_of(web, stays(len(web)))), 1)
            self.same(size(group_of(web, stays(len(web))[::-1])), 1)
        for many in range(12):
            self.same(size(group_of(bare(12), stays(12)[:many])), math.factorial(12 - many))


class Way(Case):
    def test_ordinary(self):
        self.same([way(SQUARE, 0, a) for a in range(4)], [(), (0,), (0, 0), (0, 0, 0)])
        self.same([way(BOTH_WAYS, 0, a) for a in range(4)], [(1, 1), (1,), (), (3,)])
        self.same([way(THREE, 0, a) for a in range(3)], [(), (1,), (1, 1)])
        self.same([way(THREE, 1, a) for a in (1, 2)], [(), (0,)])

    def test_each_corner_at_each_level(self):
        for web, row, group in told_groups():
            for level in range(len(group[2])):
                for corner in range(len(web)):
                    wanted = oracle.way(group, level, corner)
                    if wanted is None:
                        self.refused(NotReached, {"level": level, "corner": corner}, way, group, level, corner)
                    else:
                        self.same(self.call(way, group, level, corner), wanted)
                        self.same(oracle.make(group, wanted)[group[2][level][0]], corner)

    def test_anything_as_a_level_or_as_a_corner(self):
        for group in [SQUARE, BOTH_WAYS, THREE] + [row[2] for row in NOTHING]:
            levels = len(group[2])
            for thing in things() + [len(group[2]), -1]:
                right = oracle.within(thing, 0, levels - 1)
                if not right:
                    for corner in (0, 1, None, thing):
                        self.refused(NotReached, {"level": thing, "corner": corner}, way, group, thing, corner)
                for level in range(levels):
                    if not oracle.whole(thing) or oracle.way(group, level, thing) is None:
                        self.refused(NotReached, {"level": level, "corner": thing}, way, group, level, thing)
        self.refused(NotReached, {"level": 1, "corner": 0}, way, THREE, 1, 0)
        self.refused(NotReached, {"level": 2, "corner": 0}, way, THREE, 2, 0)
        self.refused(NotReached, {"level": True, "corner": 1}, way, THREE, True, 1)
        self.refused(NotReached, {"level": 1, "corner": True}, way, THREE, 1, True)
        self.refused(NotReached, {"level": False, "corner": False}, way, THREE, False, False)


class Made(Case):
    def test_ordinary(self):
        self.same(made((0, (), ()), ()), ())
        self.same(made(SQUARE, ()), (0, 1, 2, 3))
        self.same(made(SQUARE, (0,)), TURN)
        self.same(made(SQUARE, (0, 0)), (2, 3, 0, 1))
        self.same(made(SQUARE, (0,) * 1000), (0, 1, 2, 3))
        # The first one is done first.
        self.same(made(THREE, (0, 1)), then((0, 2, 1), (1, 2, 0)))
        self.same(made(THREE, (1, 0)), then((1, 2, 0), (0, 2, 1)))
        self.assertNotEqual(made(THREE, (0, 1)), made(THREE, (1, 0)))

    def test_words_of_several(self):
        for web, row, group in told_groups()[::3]:
            numbers = chance(len(group[1]))
            for long in range(6):
                if group[1]:
                    word = tuple(next(numbers) % len(group[1]) for _ in range(long))
                    told = self.call(made, group, word)
                    self.same(told, oracle.make(group, word))
                    self.assertTrue(oracle.fits(web, row, web, row, told))
            self.same(made(group, ()), stays(len(web)))

    def test_anything_else(self):
        for group in (SQUARE, BOTH_WAYS, THREE, (0, (), ()), (1, (), ())):
            many = len(group[1])
            right = [0, 1][:many]
            for thing in list(variants(tuple(right), things())) + [(many,), (-1,), (0, many), [0], (False,), (0, True)]:
                word = type(thing) is tuple and all(oracle.within(k, 0, many - 1) for k in thing)
                if word:
                    self.same(self.call(made, group, thing), oracle.make(group, thing))
                else:
                    self.refused(NoWord, {}, made, group, thing)


class Words(Case):
    def look(self, group, thing):
        """Sees what is told of anything as a twist, by its word and by its number."""
        word, told = oracle.ways_of(group, thing)
        if word == "no":
            self.refused(NoTwist, {"level": told}, word_of, group, thing)
            self.refused(NoTwist, {"level": told}, number_of, group, thing)
        else:
            wanted = tuple(k for one in reversed(told) for k in one)
            self.same(self.call(word_of, group, thing), wanted)
            self.same(self.call(made, group, wanted), thing)
            number = self.call(number_of, group, thing)
            self.same(number, oracle.number(group, told))
            self.same(self.call(member, group, number), thing)
        return word == "ways"

    def test_ordinary(self):
        self.same(word_of((0, (), ()), ()), ())
        self.same(number_of((0, (), ()), ()), 0)
        self.same([word_of(SQUARE, twist) for twist in (stays(4), TURN, (2, 3, 0, 1), (3, 0, 1, 2))],
                  [(), (0,), (0, 0), (0, 0, 0)])
        # Two levels: the way of the last one comes first.
        self.same(word_of(THREE, (1, 0, 2)), (0, 1))
        self.same(word_of(THREE, (2, 1, 0)), (0, 1, 1))
        self.same([number_of(THREE, twist) for twist in itertools.permutations(range(3))], [0, 1, 3, 2, 4, 5])

    def test_levels_of_refusals(self):
        self.refused(NoTwist, {"level": -1}, word_of, SQUARE, (0, 1, 2))
        self.refused(NoTwist, {"level": -1}, word_of, SQUARE, (0, 1, 2, 3, 4))
        self.refused(NoTwist, {"level": -1}, word_of, SQUARE, [0, 1, 2, 3])
        self.refused(NoTwist, {"level": -1}, word_of, SQUARE, (False, 1, 2, 3))
        self.refused(NoTwist, {"level": 1}, word_of, SQUARE, (1, 0, 2, 3))
        self.refused(NoTwist, {"level": -1}, word_of, (0, (), ()), (0,))
        # No levels at all: what is left is what was handed in.
        self.refused(NoTwist, {"level": 0}, word_of, group_of(chain(3)), (1, 0, 2))
        self.same(word_of(group_of(chain(3)), stays(3)), ())
        # Rings of three and of four: from the one to the other there is no way.
        web = beside(ring(3), ring(4))
        group = group_of(web)
        self.same(len(group[2]), 2)
        self.refused(NoTwist, {"level": 0}, word_of, group, (3, 4, 5, 6, 0, 1, 2))
        corner, lower = group[2][0][0], group[2][1][0]
        swap = list(stays(7))
        other = next(a for a in range(3) if a not in (corner, lower))
        swap[lower], swap[other] = other, lower
        self.assertTrue(lower > 2 and corner < 3)
        self.refused(NoTwist, {"level": 1}, word_of, group, tuple(swap))

    def test_all_orders_of_few_corners(self):
        for web in list(all_webs(3, 1, 1))[::3] + small_webs()[::29] + [bare(4), ring(4), full(4), chain(4)]:
            for row in all_rows(len(web))[::3]:
                for group in told_and_others(web, row, 1):
                    right = [order for order in itertools.permutations(range(len(web))) if self.look(group, order)]
                    self.assertEqual(right, oracle.twists(web, row))

    def test_five_and_six_corners(self):
        for web, row in ((WHEEL, ()), (beside(chain(2), chain(2), bare(1)), ()), (beside(ring(3), ring(3)), ()),
                         (beside(ring(3), ring(3)), (4,)), (beside(full(2), full(2), full(2)), ())):
            for group in told_and_others(web, row, 1):
                right = [order for order in itertools.permutations(range(len(web))) if self.look(group, order)]
                self.assertEqual(right, oracle.twists(web, row))

    def test_each_twist(self):
        for web, row, group in told_groups()[::4]:
            if row or len(web) < 12:
                for twist in oracle.twists(web, row)[:40]:
                    self.assertTrue(self.look(group, twist))

    def test_twists_of_the_web_that_do_not_keep_the_row(self):
        for web, row in ((bare(4), (2,)), (full(5), (0, 3)), (ring(4), (1,)), (around(ring(5), ring(5)), (3,))):
            for group in told_and_others(web, row):
                for twist in oracle.twists(web, ())[:150]:
                    self.assertIs(self.look(group, twist), oracle.fits(web, row, web, row, twist))

    def test_anything_else(self):
        for group in (SQUARE, BOTH_WAYS, THREE, (0, (), ()), (1, (), ()), group_of(bare(2))):
            for thing in list(variants(stays(group[0])[::-1], things())):
                self.look(group, thing)
        for thing in things():
            self.look(group_of(bare(12)), thing)
            self.look(group_of(ring(12)), thing)


class Members(Case):
    def test_ordinary(self):
        self.same(member((0, (), ()), 0), ())
        self.same(member((1, ((0,),), ()), 0), (0,))
        self.same([member(SQUARE, number) for number in range(4)], [stays(4), TURN, (2, 3, 0, 1), (3, 0, 1, 2)])
        self.same([member(BOTH_WAYS, number) for number in range(4)], [stays(4), (3, 0, 1, 2), TURN, (2, 3, 0, 1)])
        # By two levels: the number of the first one counts most.
        self.same(member(THREE, 1), (0, 2, 1))
        self.same(member(THREE, 2), (1, 2, 0))
        self.same(member(THREE, 3), then((0, 2, 1), (1, 2, 0)))

    def test_each_number_below_the_size_is_that_of_just_one_twist(self):
        for web, row, group in told_groups()[::2]:
            if size(group) <= 400:
                told = [self.call(member, group, number) for number in range(size(group))]
                self.assertEqual(sorted(told), oracle.twists(web, row))
                self.assertEqual(len(set(told)), size(group))
                for number, twist in enumerate(told):
                    self.same(number_of(group, twist), number)
                self.same(members(group), told)

    def test_few_corners(self):
        for web in small_webs()[::7]:
            for row in all_rows(len(web))[::4]:
                for group in told_and_others(web, row, 1):
                    told = [member(group, number) for number in range(size(group))]
                    self.assertEqual(sorted(told), oracle.twists(web, row))
                    for number, twist in enumerate(told):
                        self.same(number_of(group, twist), number)
                        self.same(made(group, word_of(group, twist)), twist)

    def test_anything_else(self):
        for group in [SQUARE, BOTH_WAYS, THREE, group_of(bare(12))] + [row[2] for row in NOTHING]:
            for thing in things() + [size(group), size(group) + 1, -size(group)]:
                if not oracle.within(thing, 0, size(group) - 1):
                    self.refused(NoMember, {"number": thing}, member, group, thing)
            self.refused(NoMember, {"number": False}, member, group, False)

    def test_twelve_corners(self):
        numbers = chance(5)
        for web in great_webs():
            group = group_of(web)
            many = size(group)
            for number in [0, many - 1, many // 2] + [next(numbers) % many for _ in range(20)]:
                twist = in_time(self, member, group, number)
                self.assertTrue(oracle.fits(web, (), web, (), twist))
                self.same(number_of(group, twist), number)
                word = word_of(group, twist)
                self.same(oracle.make(group, word), twist)
                self.same(made(group, word), twist)
            self.refused(NoMember, {"number": many}, member, group, many)


class Turns(Case):
    def test_ordinary(self):
        self.same(turns((0, (), ())), ())
        self.same(turns((1, (), ())), ((0,),))
        self.same(turns(SQUARE), ((0, 1, 2, 3),))
        self.same(turns(THREE), ((0, 1, 2),))
        self.same(turns(group_of(beside(ring(3), ring(4)))), ((0, 1, 2), (3, 4, 5, 6)))
        self.same(turns(group_of(chain(12))), tuple((a,) for a in range(12)))
        self.same(turns(group_of(bare(12))), (stays(12),))
        self.same(turns(group_of(bare(12), (3, 0))), ((0,), (1, 2, 4, 5, 6, 7, 8, 9, 10, 11), (3,)))
        self.same(turns(group_of(Web((1, 0, 1, 0)))), ((0, 2), (1, 3)))

    def test_those_of_all_twists(self):
        for web, row, group in told_groups():
            if row or len(web) < 12:
                self.same(self.call(turns, group), oracle.turns(web, row))

    def test_few_corners(self):
        for web in list(all_webs(3, 1, 1)) + small_webs()[::7]:
            for row in all_rows(len(web))[::3]:
                self.same(turns(group_of(web, row)), oracle.turns(web, row))


class Carried(Case):
    def test_ordinary(self):
        self.same(carried_group((0, (), ()), ()), (0, (), ()))
        self.same(carried_group(SQUARE, stays(4)), SQUARE)
        wanted = (4, ((2, 3, 1, 0),), ((0, ((2, 0, 0), (1, 2, 0), (3, 1, 0)), ()),))
        self.same(carried_group(SQUARE, (0, 2, 1, 3)), wanted)

    def test_others(self):
        four = (0, 1, 2, 4, 5, 6, 3)
        others = ((3, "no", ("unlike",)), (4, "turned", 3, four), (6, "turned", 4, then(four, four)))
        others += ((5, "turned", 4, four),)
        steps = ((4, 3, 1), (5, 4, 1), (6, 5, 1))
        group = (7, ((1, 2, 0, 3, 4, 5, 6), four), ((0, ((1, 0, 0), (2, 1, 0)), others), (3, steps, ())))
        web = beside(ring(3), ring(4))
        self.assertTrue(oracle.right_group(web, (), group))
        naming = (6, 5, 4, 3, 2, 1, 0)
        told = self.call(carried_group, group, naming)
        new = carried_twist(four, naming)
        self.same(told[2][0][2], (
            (3, "no", ("unlike",)), (2, "turned", 3, new), (0, "turned", 2, then(new, new)), (1, "turned", 2, new)))
        self.same(told[2][1][:2], (3, ((2, 3, 1), (1, 2, 1), (0, 1, 1))))

    def test_right_for_the_renamed_web_and_row(self):
        for web in edge_webs()[:12] + knotty_webs():
            for row in some_rows(len(web))[:3]:
                for group in told_and_others(web, row, 1):
                    for naming in some_namings(len(web))[1:4]:
                        self.look(web, row, group, naming)

    def look(self, web, row, group, naming):
        told = self.call(carried_group, group, naming)
        new, led = renamed(web, naming), carried_row(row, naming)
        self.assertIs(right_group(new, led, told), True)
        self.assertIs(oracle.right_group(new, led, told), True)
        self.same(carried_group(told, back(naming)), group)
        self.same(size(told), size(group))
        for number in {0, size(group) - 1, size(group) // 3}:
            self.same(member(told, number), carried_twist(member(group, number), naming))
        for at, level in enumerate(group[2]):
            for corner in [level[0]] + [step[0] for step in level[1]]:
                self.same(way(told, at, naming[corner]), way(group, at, corner))

    def test_right_just_where_it_was_right(self):
        for web, row in ((ring(4), ()), (ring(4), (0,)), (beside(ring(3), ring(4)), (3,)),
                         (around(WHEEL, OTHER_WHEEL, 1), ())):
            group = group_of(web, row)
            for naming in some_namings(len(web))[1:4]:
                told = carried_group(group, naming)
                for other_row in some_rows(len(web)):
                    wanted = oracle.right_group(web, other_row, group)
                    new_row = carried_row(other_row, naming)
                    self.assertIs(right_group(renamed(web, naming), new_row, told), wanted)
                wanted = oracle.right_group(renamed(web, naming), row, group)
                led = carried_row(row, back(naming))
                self.assertIs(right_group(web, led, carried_group(group, back(naming))), wanted)

    def test_deep_papers(self):
        web = around(WHEEL, OTHER_WHEEL, 1)
        for group in told_and_others(web, ()):
            self.assertEqual(group[2][0][2][0][2][0], "every")
            for naming in some_namings(12)[1:]:
                self.look(web, (), group, naming)

    def test_each_member(self):
        for web in (bare(3), ring(4), beside(chain(2), chain(2)), signed([])):
            group = group_of(web)
            for naming in some_namings(len(web))[1:]:
                told = carried_group(group, naming)
                for number in range(size(group)):
                    self.same(member(told, number), carried_twist(member(group, number), naming))


class TheTwistsThatKeepARow(Case):
    """They are just those made of the told group's twists, and as many as its size (point [4])."""

    def test_few_corners(self):
        for web in small_webs()[::5] + [some_web(5, seed, colours=1, marks=1, blanks=1) for seed in range(8)]:
            for row in all_rows(len(web))[:16]:
                group = group_of(web, row)
                self.assertEqual(oracle.made_of(len(web), group[1]), oracle.twists(web, row))
                self.same(size(group), len(oracle.twists(web, row)))


class TheSameEachTime(Case):
    def test_in_another_run(self):
        told = told_elsewhere(
            "from likewebs.grouping import group_of",
            "from likewebs.groups import *",
            "for web in knotty_webs():",
            "    group = group_of(web)",
            "    last = member(group, size(group) - 1)",
            "    print(size(group), last, word_of(group, last), turns(group), carried_group(group, last))",
        )
        self.assertEqual(told[0], told[1])
        self.assertTrue(told[0])


class NothingIsChanged(Case):
    def test_groups_with_anything(self):
        for thing in few_things():
            for deed in (made, word_of, number_of, member):
                try:
                    self.call(deed, SQUARE, thing)
                except (NoWord, NoTwist, NoMember):
                    pass

    def test_others_in_any_order(self):
        group = group_of(beside(ring(3), ring(4)))
        many, twists, ((corner, reached, others), *rest) = group
        for seed in range(5):
            told = (many, twists, ((corner, reached, tuple(mixed(chance(seed), others))),) + tuple(rest))
            self.same(size(told), size(group))
            self.same(members(told), members(group))


if __name__ == "__main__":
    unittest.main()
