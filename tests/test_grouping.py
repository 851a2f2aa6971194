"""Twists and groups (points [31] and [32])."""

import itertools
import unittest

from likewebs.errors import NoRow
from likewebs.grouping import group_of, is_twist, right_group
from likewebs.namings import stays
from likewebs.webs import Web
from tests import oracle
from tests.common import (
    OTHER_WHEEL, TRIANGLES, WHEEL, Case, all_rows, all_webs, around, bare, beside, chain, chance, edge_webs, few_things,
    full, great_webs, in_time, knotty_webs, ring, signed, small_webs, some_rows, things, told_elsewhere, variants,
)
from tests.makers import a_group, mixed, some_groups

UNLIKE = ("unlike",)
RINGS = beside(ring(3), ring(4))
TURN = (1, 2, 3, 0)
WORDS = ["no", "turned", "unlike", "every", "naming", "No"]


class Looks(Case):
    def judge(self, web, row, thing):
        """What is told of the thing, which the document's points, told once more, must tell too."""
        wanted = oracle.right_group(web, row, thing)
        self.assertIs(self.call(right_group, web, row, thing), wanted)
        return wanted

    def right(self, web, row, thing):
        self.assertIs(self.judge(web, row, thing), True)

    def wrong(self, web, row, thing):
        self.assertIs(self.judge(web, row, thing), False)


class IsTwist(Case):
    def test_ordinary(self):
        self.assertIs(is_twist(Web(()), (), ()), True)
        self.assertIs(is_twist(ring(4), (), TURN), True)
        self.assertIs(is_twist(ring(4), (), (1, 0, 3, 2)), False)
        self.assertIs(is_twist(ring(4), (0,), TURN), False)
        self.assertIs(is_twist(ring(4), (0,), stays(4)), True)
        self.assertIs(is_twist(bare(3), (2,), (1, 0, 2)), True)
        self.assertIs(is_twist(bare(3), (2, 0), (1, 0, 2)), False)
        self.assertIs(is_twist(bare(12), (), stays(12)[::-1]), True)
        self.assertIs(is_twist(bare(12), stays(12), stays(12)), True)

    def test_all_orders_of_few_corners(self):
        for web in small_webs()[::17]:
            for row in all_rows(len(web))[::3]:
                for thing in itertools.permutations(range(len(web))):
                    self.assertIs(self.call(is_twist, web, row, thing), thing in oracle.twists(web, row))

    def test_anything(self):
        for web, row, twist in ((Web(()), (), ()), (Web((3,)), (0,), (0,)), (bare(3), (1,), (2, 1, 0))):
            for thing in variants(twist, things()):
                self.assertIs(self.call(is_twist, web, row, thing), oracle.fits(web, row, web, row, thing))
        self.assertIs(is_twist(bare(2), (), (True, False)), False)
        self.assertIs(is_twist(bare(2), (), [1, 0]), False)


class RightGroup(Looks):
    def test_no_levels(self):
        for web, row in ((Web(()), ()), (Web((1,)), ()), (Web((1,)), (0,)), (chain(12), ()), (bare(2), (1,)),
                         (bare(12), stays(12)), (full(12), stays(11)), (ring(12), (5,))):
            many = len(web)
            self.right(web, row, (many, (), ()))
            # A twist that nobody needs.
            self.right(web, row, (many, (stays(many),), ()))
            self.wrong(web, row, (many, (), ((0, (), ()),)))
            self.wrong(web, row, (many + 1, (), ()))
        self.wrong(bare(2), (), (2, (), ()))
        self.wrong(ring(3), (), (3, ((1, 2, 0),), ()))

    def test_one_level(self):
        steps = ((1, 0, 0), (2, 1, 0), (3, 2, 0))
        self.right(ring(4), (), (4, (TURN,), ((0, steps, ()),)))
        self.right(ring(4), (), (4, (TURN,), ((3, ((0, 3, 0), (1, 0, 0), (2, 1, 0)), ()),)))
        # Steps behind one another; twists in any order, some that nobody needs.
        back = (3, 0, 1, 2)
        self.right(ring(4), (), (4, (back, TURN), ((0, ((1, 0, 1), (3, 0, 0), (2, 3, 0)), ()),)))
        self.right(ring(4), (), (4, (back, TURN, TURN, stays(4)), ((0, ((1, 0, 2), (2, 1, 1), (3, 0, 0)), ()),)))
        for reached in (
            # A step from a corner that is not reached yet, to one that is reached, to the level's corner.
            ((2, 1, 0), (1, 0, 0), (3, 2, 0)), ((1, 0, 0), (1, 0, 0), (2, 1, 0), (3, 2, 0)),
            ((1, 0, 0), (2, 1, 0), (3, 2, 0), (0, 3, 0)),
            # A twist that sends it elsewhere, a number of no twist.
            ((1, 0, 0), (3, 1, 0), (2, 3, 0)), ((1, 0, 1), (2, 1, 0), (3, 2, 0)), ((1, 0, -1), (2, 1, 0), (3, 2, 0)),
            # One that lacks; too many or too few things; a truth; a list.
            steps[:2], (), ((1, 0, 0, 0),) + steps[1:], ((1, 0),) + steps[1:], ((True, 0, 0),) + steps[1:],
            ((1, False, 0),) + steps[1:], ((1, 0, False),) + steps[1:], ([1, 0, 0],) + steps[1:], list(steps), None,
            ((4, 0, 0),) + steps, ((1, 4, 0),) + steps[1:], ((99, 0, 0), (1, 99, 0)) + steps[1:],
        ):
            self.wrong(ring(4), (), (4, (TURN,), ((0, reached, ()),)))

    def test_wrong_twists(self):
        level = (0, ((1, 0, 0), (2, 1, 0), (3, 2, 0)), ())
        for twists in ([TURN], None, (), (TURN, (1, 0, 2, 3)), (list(TURN),), (TURN, None), ((1, 2, 3, False),),
                       (TURN + (4,),), (TURN[:3],), TURN, "turn", (TURN, ())):
            self.wrong(ring(4), (), (4, twists, (level,)))
        # A twist of the web that does not keep the row.
        self.right(bare(3), (0,), (3, ((0, 2, 1),), ((1, ((2, 1, 0),), ()),)))
        self.wrong(bare(3), (0,), (3, ((0, 2, 1), (1, 0, 2)), ((1, ((2, 1, 0),), ()),)))

    def test_a_twist_that_keeps_the_web_but_not_the_longer_row(self):
        swap, turn, other = (0, 2, 1), (1, 2, 0), (2, 1, 0)
        first = (0, ((1, 0, 1), (2, 1, 1)), ())
        self.right(bare(3), (), (3, (swap, turn), (first, (1, ((2, 1, 0),), ()))))
        # It sends 1 to 2, but the corner of the level ahead away.
        self.wrong(bare(3), (), (3, (swap, turn), (first, (1, ((2, 1, 1),), ()))))
        # At the first level it may.
        self.right(bare(3), (), (3, (swap, turn, other), ((0, ((2, 0, 2), (1, 2, 0)), ()), (1, ((2, 1, 0),), ()))))
        self.right(bare(3), (), (3, (swap, turn, other), ((1, ((2, 1, 1), (0, 2, 1)), ()), (2, ((0, 2, 2),), ()))))

    def test_levels(self):
        group = a_group(bare(4), (), chance(1))
        self.right(bare(4), (), group)
        many, twists, levels = group
        self.same(len(levels), 3)
        self.wrong(bare(4), (), (many, twists, levels[:2]))
        self.wrong(bare(4), (), (many, twists, levels[1:]))
        self.wrong(bare(4), (), (many, twists, levels + levels[2:]))
        self.wrong(bare(4), (), (many, twists, levels[::-1]))
        self.wrong(bare(4), (), (many, twists, list(levels)))
        self.wrong(bare(4), (), (many, twists))
        self.wrong(bare(4), (), (many, twists, levels, ()))
        self.wrong(bare(4), (), list(group))
        self.wrong(bare(4), (), (True, twists, levels))
        self.wrong(bare(4), (), ("4", twists, levels))
        for at, level in enumerate(levels):
            for thing in (None, (), level[:2], level + ((),), list(level), (True,) + level[1:], (4,) + level[1:]):
                self.wrong(bare(4), (), (many, twists, levels[:at] + (thing,) + levels[at + 1:]))

    def test_truths_are_no_numbers(self):
        self.right(Web((1,)), (), (1, (), ()))
        self.wrong(Web((1,)), (), (True, (), ()))
        self.right(Web(()), (), (0, (), ()))
        self.wrong(Web(()), (), (False, (), ()))
        self.right(bare(2), (), (2, ((1, 0),), ((1, ((0, 1, 0),), ()),)))
        self.wrong(bare(2), (), (2, ((1, 0),), ((True, ((0, 1, 0),), ()),)))
        self.wrong(bare(2), (), (2, ((True, 0),), ((1, ((0, 1, 0),), ()),)))

    def test_others(self):
        group = a_group(RINGS, (), chance(2))
        self.right(RINGS, (), group)
        many, twists, ((corner, reached, others), *rest) = group
        self.assertTrue(reached and others)
        for told in itertools.islice(itertools.permutations(others), 24):
            thing = (many, twists, ((corner, reached, told),) + tuple(rest))
            self.judge(RINGS, (), thing)
        plain = tuple((kid[0], "no", UNLIKE) for kid in others)
        for told in itertools.permutations(plain):
            self.right(RINGS, (), (many, twists, ((corner, reached, told),) + tuple(rest)))
        for at, kid in enumerate(plain):
            # One twice, one that lacks, the level's corner, one that is reached.
            wrong = [plain + (kid,), plain[:at] + plain[at + 1:], list(plain)]
            wrong += [plain + ((corner, "no", UNLIKE),), plain + ((reached[0][0], "no", UNLIKE),)]
            for other in ((corner, "no", UNLIKE), (True, "no", UNLIKE), (kid[0], "no", ("every", 0, ())),
                          (kid[0], "down", UNLIKE), (kid[0], "no"), (kid[0], "no", UNLIKE, 0), list(kid)):
                wrong.append(plain[:at] + (other,) + plain[at + 1:])
            for told in wrong:
                self.wrong(RINGS, (), (many, twists, ((corner, reached, told),) + tuple(rest)))
        # One that a twist would reach, told as another one.
        y = reached[-1][0]
        for word in (UNLIKE, ("every", 0, ())):
            told = plain + ((y, "no", word),)
            self.wrong(RINGS, (), (many, twists, ((corner, reached[:-1], told),) + tuple(rest)))

    def test_others_turned(self):
        def group(others):
            return (7, twists, ((0, ((1, 0, 0), (2, 1, 0)), others), (3, ((4, 3, 1), (5, 4, 1), (6, 5, 1)), ())))

        one, four = (1, 2, 0, 3, 4, 5, 6), (0, 1, 2, 4, 5, 6, 3)
        twists = (one, four)
        first = (3, "no", UNLIKE)
        turned = ((4, "turned", 3, four), (5, "turned", 4, four), (6, "turned", 5, four))
        self.right(RINGS, (), group((first,) + turned))
        # Twists that are not among those of the group.
        self.right(RINGS, (), group((first, (4, "turned", 3, (1, 2, 0, 4, 5, 6, 3))) + turned[1:]))
        self.wrong(RINGS, (), group(turned + (first,)))
        self.wrong(RINGS, (), group((first, turned[1], turned[0], turned[2])))
        # Turned to the level's corner, to one that is reached, to itself, to none.
        for kid in ((4, "turned", 0, four), (4, "turned", 1, one), (4, "turned", 4, stays(7)), (4, "turned", 7, four),
                    (4, "turned", True, four), (4, "turned", 3, one), (4, "turned", 3, None), (4, "turned", 3),
                    (4, "turned", 3, list(four)), (4, "turned", 3, four, 0), (4, "Turned", 3, four),
                    [4, "turned", 3, four]):
            self.wrong(RINGS, (), group((first, kid) + turned[1:]))

    def test_a_turn_of_others_that_does_not_keep_the_longer_row(self):
        web = beside(bare(2), RINGS)
        for seed in range(3):
            group = a_group(web, (), chance(seed))
            self.right(web, (), group)
            many, twists, levels = group
            for at, (corner, reached, others) in enumerate(levels):
                for place, kid in enumerate(others):
                    if kid[1] == "turned" and at > 0:
                        for twist in oracle.twists(web, ()):
                            told = others[:place] + ((kid[0], "turned", kid[2], twist),) + others[place + 1:]
                            level = (corner, reached, told)
                            self.judge(web, (), (many, twists, levels[:at] + (level,) + levels[at + 1:]))

    def test_some_groups(self):
        for web in edge_webs()[:12] + knotty_webs():
            for row in some_rows(len(web))[:4]:
                for group in some_groups(web, row, 2):
                    self.right(web, row, group)
                    self.same(oracle.size(group), len(oracle.twists(web, row)))

    def test_right_for_one_web_and_row_alone(self):
        webs = [bare(3), ring(3), full(3), chain(3), Web((0, 0, 1)), Web((0, 1, 0))]
        places = [(web, row) for web in webs for row in ((), (0,), (2,), (1, 0))]
        for home, home_row in places:
            group = a_group(home, home_row, chance(3))
            for web, row in places:
                self.judge(web, row, group)


class Anything(Looks):
    def test_at_every_place_and_depth(self):
        for web, row, seed in ((Web(()), (), 0), (Web((1,)), (0,), 1), (bare(2), (), 2), (bare(3), (), 3),
                               (RINGS, (3,), 5), (RINGS, (), 6), (Web((0, 0, 1, 1)), (), 7)):
            group = a_group(web, row, chance(seed))
            self.right(web, row, group)
            odd = few_things() + WORDS + [3, UNLIKE, stays(len(web)), (0, (), ()), (1, 0, 0)]
            for thing in variants(group, odd):
                self.judge(web, row, thing)

    def test_in_a_deep_group(self):
        web = around(WHEEL, OTHER_WHEEL, 1)
        group = a_group(web, (), chance(1))
        self.assertEqual(group[2][0][2][0][2][0], "every")
        for thing in variants(group, [None, True, 1, (), UNLIKE]):
            self.judge(web, (), thing)

    def test_things(self):
        for web in (Web(()), bare(2), full(12)):
            for thing in things():
                self.wrong(web, (), thing)
                self.wrong(web, (), (thing,))
                self.wrong(web, (), (len(web), (), (thing,)))
                self.wrong(web, (), (len(web), (), ((0, thing, ()),)))
                self.wrong(web, (), (len(web), (), ((0, (), thing),)))
                self.wrong(web, (), (len(web), (), ((thing, (), ()),)))
                self.judge(web, (), (thing, (), ()))
                self.judge(web, (), (len(web), thing, ()))
                self.judge(web, (), (len(web), (), thing))


class NoRows(Case):
    def test_refused_ahead_of_all_else(self):
        for thing in variants((2, 0), things()):
            if not oracle.is_row(3, thing):
                self.refused(NoRow, {}, group_of, ring(3), thing)
                self.refused(NoRow, {}, group_of, ring(3), row=thing)
                for other in (None, (0, 1, 2), (3, (), ()), thing):
                    self.refused(NoRow, {}, is_twist, ring(3), thing, other)
                    self.refused(NoRow, {}, right_group, ring(3), thing, other)


class GroupOf(Looks):
    def look(self, web, row):
        group = self.call(group_of, web, row)
        self.right(web, row, group)
        known = oracle.twists(web, row)
        self.same(oracle.size(group), len(known))
        # Each twist is made of those that the group tells.
        self.assertEqual(oracle.made_of(len(web), group[1]), known)
        self.same(group_of(web, row), group)

    def test_ordinary(self):
        self.same(group_of(Web(())), (0, (), ()))
        self.same(group_of(Web((4,))), (1, (), ()))
        self.same(group_of(Web((4,)), (0,)), (1, (), ()))
        self.same(group_of(chain(12)), (12, (), ()))
        self.same(oracle.size(group_of(bare(2))), 2)
        self.same(oracle.size(group_of(ring(3))), 3)
        self.same(group_of(bare(2)), group_of(bare(2), ()))
        self.same(group_of(bare(2), (1,)), (2, (), ()))

    def test_few_corners(self):
        for web in list(all_webs(3, 1, 1))[::2] + small_webs()[::13]:
            for row in all_rows(len(web))[::2]:
                self.look(web, row)
        for web in edge_webs()[:12]:
            self.look(web, ())

    def test_knotty_webs(self):
        for web in knotty_webs():
            for row in some_rows(len(web))[:5]:
                self.look(web, row)
        for web in (signed([(0, 1), (2, 3)]), around(OTHER_WHEEL, WHEEL, 1), beside(TRIANGLES, WHEEL)):
            self.look(web, ())

    def test_only_one_of_those_that_twists_send_to_one_another_is_gone_into(self):
        for web in knotty_webs():
            row = ()
            for corner, _, others in group_of(web)[2]:
                gone = [kid[0] for kid in others if kid[1] == "no"]
                for twist in oracle.twists(web, row):
                    self.assertFalse([y for y in gone if twist[y] != y and twist[y] in gone])
                row += (corner,)

    def test_few_twists_are_told(self):
        for web in great_webs():
            self.assertLess(len(group_of(web)[1]), 12)

    def test_great_webs_in_a_few_seconds(self):
        for web in great_webs():
            group = in_time(self, group_of, web)
            self.assertIs(in_time(self, right_group, web, (), group), True)
            self.assertTrue(oracle.right_group(web, (), group))
        for web, wanted in ((bare(12), 479001600), (full(12), 479001600), (ring(12), 12),
                            (around(ring(5), ring(5)), 50), (beside(*[full(2)] * 6), 46080)):
            self.same(oracle.size(group_of(web)), wanted)

    def test_in_another_run(self):
        told = told_elsewhere(
            "from likewebs.grouping import group_of",
            "for web in knotty_webs() + great_webs():",
            "    print(group_of(web))",
        )
        self.assertEqual(told[0], told[1])
        self.assertTrue(told[0])

    def test_others_in_every_order(self):
        group = group_of(RINGS)
        many, twists, levels = group
        corner, reached, others = levels[0]
        self.assertTrue(others)
        for seed in range(20):
            told = tuple(mixed(chance(seed), others))
            self.judge(RINGS, (), (many, twists, ((corner, reached, told),) + levels[1:]))


if __name__ == "__main__":
    unittest.main()
