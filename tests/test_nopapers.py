"""Papers of no (point [27])."""

import itertools
import unittest

from likewebs.carrying import carried_no, carried_row
from likewebs.errors import NoRow
from likewebs.nopapers import right_no
from likewebs.rows import row_stand, row_telling, target
from likewebs.webs import Web, renamed
from tests import oracle
from tests.common import (
    HEXAGON, OTHER_WHEEL, TRIANGLES, WHEEL, Case, all_rows, all_webs, around, bare, beside, chain, chance, few_things,
    full, ring, signed, small_webs, some_namings, some_rows, things, unlike_pairs, variants,
)
from tests.makers import a_paper, mixed, some_papers

UNLIKE = ("unlike",)
NO = [(y, "no", UNLIKE) for y in range(6)]
WORDS = ["unlike", "every", "no", "turned", "naming", "Unlike", "every "]


def ring_twist(step, many=6):
    return tuple((a + step) % many for a in range(many))


class Looks(Case):
    def judge(self, one, other, thing, rows=((), ())):
        """What is told of the thing, which the document's points, told once more, must tell too."""
        wanted = oracle.right_no(one, rows[0], other, rows[1], thing)
        self.assertIs(self.call(right_no, one, rows[0], other, rows[1], thing), wanted)
        return wanted

    def right(self, one, other, thing, rows=((), ())):
        self.assertIs(self.judge(one, other, thing, rows), True)

    def wrong(self, one, other, thing, rows=((), ())):
        self.assertIs(self.judge(one, other, thing, rows), False)


class Unlike(Looks):
    def test_right_where_the_tellings_are_unequal(self):
        for one, other, rows in (
            (Web(()), Web((0,)), ((), ())), (Web((0,)), Web((1,)), ((), ())), (bare(2), chain(2), ((), ())),
            (bare(2), bare(2), ((), (0,))), (bare(3), bare(3), ((0,), (0, 1))), (bare(12), full(12), ((), ())),
            (ring(12), bare(12), ((), ())), (bare(12), bare(11), ((), ())), (chain(3), chain(3), ((0,), (1,))),
        ):
            self.right(one, other, UNLIKE, rows)
            self.right(other, one, UNLIKE, rows[::-1])

    def test_wrong_where_they_are_equal(self):
        for one, other, rows in (
            (Web(()), Web(()), ((), ())), (Web((7,)), Web((7,)), ((0,), (0,))), (bare(12), bare(12), ((), ())),
            (full(12), full(12), ((3,), (4,))), (TRIANGLES, HEXAGON, ((), ())), (WHEEL, OTHER_WHEEL, ((), ())),
        ):
            self.wrong(one, other, UNLIKE, rows)

    def test_nothing_else_is_right_where_they_are_unequal(self):
        for thing in (("every", 0, ()), ("every", 0, tuple(NO[:2])), (), ("unlike", ()), ("unlike", 0), ["unlike"],
                      "unlike", ("every",), (UNLIKE,), ("no", UNLIKE), None):
            self.wrong(bare(2), chain(2), thing)
            self.wrong(Web(()), Web((0,)), thing)

    def test_all_pairs_of_few_corners(self):
        webs = list(all_webs(2, 2, 1)) + list(all_webs(1, 1, 2)) + [Web(())]
        for one, other in itertools.product(webs, repeat=2):
            for rows in itertools.product(all_rows(len(one)), all_rows(len(other))):
                self.assertIs(self.judge(one, other, UNLIKE, rows),
                              row_telling(one, rows[0]) != row_telling(other, rows[1]))


class Every(Looks):
    def test_every_kid_gone_into(self):
        for x in range(6):
            self.right(TRIANGLES, HEXAGON, ("every", x, tuple(NO)))
            self.right(HEXAGON, TRIANGLES, ("every", x, tuple(NO)))
            self.right(ring(6), beside(ring(3), ring(3)), ("every", x, tuple(NO)))

    def test_kids_in_every_order(self):
        for told in itertools.permutations(NO[:5]):
            self.right(WHEEL, OTHER_WHEEL, ("every", 3, told))

    def test_turned(self):
        turned = [(y, "turned", 0, ring_twist(y)) for y in range(1, 6)]
        self.right(TRIANGLES, HEXAGON, ("every", 4, (NO[0],) + tuple(turned)))
        # Turned to one that is turned.
        steps = [(y, "turned", y - 1, ring_twist(1)) for y in range(1, 6)]
        self.right(TRIANGLES, HEXAGON, ("every", 4, (NO[0],) + tuple(steps)))
        # To one that stands behind it, to itself, to none, to a truth.
        self.wrong(TRIANGLES, HEXAGON, ("every", 4, tuple(turned) + (NO[0],)))
        self.wrong(TRIANGLES, HEXAGON, ("every", 4, (turned[0], NO[0]) + tuple(turned[1:])))
        self.wrong(TRIANGLES, HEXAGON, ("every", 4, ((0, "turned", 0, ring_twist(0)),) + tuple(turned)))
        self.wrong(TRIANGLES, HEXAGON, ("every", 4, (NO[0], (1, "turned", 1, ring_twist(0))) + tuple(turned[1:])))
        self.wrong(TRIANGLES, HEXAGON, ("every", 4, (NO[0], (1, "turned", 6, ring_twist(1))) + tuple(turned[1:])))
        self.wrong(TRIANGLES, HEXAGON, ("every", 4, (NO[0], (1, "turned", -6, ring_twist(1))) + tuple(turned[1:])))
        self.wrong(TRIANGLES, HEXAGON, ("every", 4, (NO[0], (1, "turned", False, ring_twist(1))) + tuple(turned[1:])))

    def test_turned_in_every_order(self):
        turned = [(y, "turned", 0, ring_twist(y, 5)) for y in range(1, 4)]
        for told in itertools.permutations([NO[0], NO[4]] + turned):
            wanted = all(kid[1] == "no" or told.index(NO[0]) < at for at, kid in enumerate(told))
            self.assertIs(self.judge(WHEEL, OTHER_WHEEL, ("every", 0, told)), wanted)

    def test_wrong_twists(self):
        for twist in (ring_twist(0), ring_twist(2), (1, 2, 0, 3, 4, 5), (1, 0, 2, 3, 4, 5), list(ring_twist(1)), None,
                      ring_twist(1)[:5], ring_twist(1) + (6,), (True, 2, 3, 4, 5, 0), (1, 2, 3, 4, 5, False), ()):
            told = (NO[0], (1, "turned", 0, twist)) + tuple(NO[2:])
            self.wrong(TRIANGLES, HEXAGON, ("every", 4, told))
        # One that sends z to y and keeps the web, but turns it about.
        self.right(TRIANGLES, HEXAGON, ("every", 4, (NO[0], (1, "turned", 0, (1, 0, 5, 4, 3, 2))) + tuple(NO[2:])))
        # A twist of the one web is none of the other.
        self.wrong(TRIANGLES, HEXAGON, ("every", 4, (NO[0], (1, "turned", 0, (1, 2, 0, 3, 4, 5))) + tuple(NO[2:])))
        self.right(HEXAGON, TRIANGLES, ("every", 4, (NO[0], (1, "turned", 0, (1, 2, 0, 3, 4, 5))) + tuple(NO[2:])))

    def test_a_twist_that_does_not_keep_the_row(self):
        one, other = beside(bare(2), WHEEL), beside(bare(2), OTHER_WHEEL)
        rows = ((0,), (0,))
        kids = [(y, "no", UNLIKE) for y in range(2, 7)]
        self.same(row_stand(other, (0,))[target(row_stand(other, (0,)))], (2, 3, 4, 5, 6))
        self.right(one, other, ("every", 2, tuple(kids)), rows)
        kept, lost = (0, 1, 3, 4, 5, 6, 2), (1, 0, 3, 4, 5, 6, 2)
        self.right(one, other, ("every", 2, (kids[0], (3, "turned", 2, kept)) + tuple(kids[2:])), rows)
        self.wrong(one, other, ("every", 2, (kids[0], (3, "turned", 2, lost)) + tuple(kids[2:])), rows)

    def test_a_kid_twice_and_one_that_lacks(self):
        for at in range(6):
            self.wrong(TRIANGLES, HEXAGON, ("every", 0, tuple(NO + [NO[at]])))
            self.wrong(TRIANGLES, HEXAGON, ("every", 0, tuple(NO[:at] + NO[at + 1:])))
            self.wrong(TRIANGLES, HEXAGON, ("every", 0, tuple(NO[:at] + NO[at + 1:] + [NO[at - 1]])))
            self.wrong(TRIANGLES, HEXAGON, ("every", 0, tuple(NO + [(6, "no", UNLIKE)])))
        self.wrong(TRIANGLES, HEXAGON, ("every", 0, ()))

    def test_the_corner_x(self):
        one, other = beside(bare(2), WHEEL), beside(bare(2), OTHER_WHEEL)
        cell = row_stand(one, ())[target(row_stand(one, ()))]
        for paper in some_papers(one, (), other, ()):
            for x in list(range(-1, 8)) + [True, False, None, "0", (0,)]:
                self.judge(one, other, ("every", x, paper[2]))
                if isinstance(x, bool) or x not in cell:
                    self.wrong(one, other, ("every", x, paper[2]))

    def test_where_there_is_no_target(self):
        for web in (Web(()), Web((1,)), chain(3), chain(12)):
            for kids in ((), (NO[0],), tuple(NO[:3])):
                self.wrong(web, web, ("every", 0, kids))

    def test_a_kid_whose_paper_is_wrong(self):
        for paper in (("every", 0, ()), None, (), "unlike", ["unlike"], ("unlike", 0), ("every", 1, tuple(NO))):
            self.wrong(TRIANGLES, HEXAGON, ("every", 0, tuple(NO[:3] + [(3, "no", paper)] + NO[4:])))

    def test_within_one_another(self):
        for one, other in unlike_pairs()[6:]:
            for paper in some_papers(one, (), other, ()):
                self.right(one, other, paper)
                self.wrong(one, one, paper)
                self.wrong(other, other, paper)
        deep = a_paper(signed([]), (), signed([(0, 1)]), (), chance(1))
        inner = [kid for kid in deep[2] if kid[1] == "no"]
        self.assertEqual({kid[2][0] for kid in inner}, {"every"})

    def test_the_rows_stand_on_their_own_sides(self):
        one, other = signed([]), signed([(0, 1)])
        for row, other_row in (((0,), (1,)), ((3,), (0,)), ((0, 1), (2, 3))):
            for paper in some_papers(one, row, other, other_row, 2):
                self.right(one, other, paper, (row, other_row))
                self.judge(other, one, paper, (other_row, row))
                self.judge(one, other, paper)


class NoNamingFits(Looks):
    """Where a naming fits no paper is right, whoever made it."""

    def test_papers_of_other_pairs(self):
        papers = [paper for one, other in unlike_pairs() for paper in some_papers(one, (), other, (), 2)]
        papers += [UNLIKE, ("every", 0, tuple(NO)), ("every", 0, tuple(NO[:5]))]
        webs = [web for pair in unlike_pairs()[:6] for web in pair]
        for web in webs:
            for naming in some_namings(len(web))[:3]:
                for paper in papers:
                    self.wrong(web, renamed(web, naming), paper)

    def test_many_papers_of_few_corners(self):
        papers = [UNLIKE]
        for kids in itertools.product(
            [(y, "no", UNLIKE) for y in range(2)] + [(y, "turned", 1 - y, (1, 0)) for y in range(2)], repeat=2,
        ):
            papers += [("every", x, kids) for x in range(2)]
        webs = list(all_webs(2, 1, 2))[::2]
        for one, other in itertools.product(webs, repeat=2):
            for rows in itertools.product(all_rows(2), repeat=2):
                fitting = oracle.namings(one, rows[0], other, rows[1])
                told = [self.judge(one, other, paper, rows) for paper in papers]
                self.assertFalse(fitting and any(told))

    def test_all_papers_of_right_ones(self):
        for one, other in unlike_pairs()[:4]:
            for paper in some_papers(one, (), other, (), 1):
                for thing in variants(paper, [0, 1, "no", "turned", UNLIKE]):
                    for naming in some_namings(len(one))[:2]:
                        self.wrong(one, renamed(one, naming), thing)


class Anything(Looks):
    def test_at_every_place_and_depth(self):
        for one, other, rows in (
            (bare(2), chain(2), ((), ())), (WHEEL, OTHER_WHEEL, ((), ())), (TRIANGLES, HEXAGON, ((), ())),
            (beside(bare(2), WHEEL), beside(bare(2), OTHER_WHEEL), ((1,), (0,))),
        ):
            many = len(other)
            odd = few_things() + WORDS + [3, UNLIKE, tuple(NO), (0, "no", UNLIKE)]
            odd += [ring_twist(1, many), ring_twist(0, many)]
            for paper in some_papers(one, rows[0], other, rows[1], 2):
                self.right(one, other, paper, rows)
                for thing in variants(paper, odd):
                    self.judge(one, other, thing, rows)

    def test_in_a_deep_paper(self):
        one, other = around(WHEEL, WHEEL, 1), around(OTHER_WHEEL, WHEEL, 1)
        paper = a_paper(one, (), other, (), chance(2))
        for thing in variants(paper, [None, True, 0, 1, (), ("unlike",), "no"]):
            self.judge(one, other, thing)

    def test_things(self):
        for one, other in ((Web(()), Web(())), (Web(()), Web((1,))), (bare(2), bare(2)), (WHEEL, OTHER_WHEEL)):
            for thing in things():
                self.wrong(one, other, thing)
                self.wrong(one, other, (thing,))
                self.wrong(one, other, ("unlike", thing))
                self.judge(one, other, ("every", thing, tuple(NO[:5])))
                self.wrong(one, other, ("every", 0, thing))
                self.wrong(one, other, ("every", 0, (thing,)))
                self.wrong(one, other, ("every", 0, tuple(NO[:4]) + (thing,)))

    def test_truths_are_no_numbers(self):
        told = [(NO[0], (True, "no", UNLIKE)), ((False, "no", UNLIKE), NO[1])]
        told += [(NO[0], (1, "turned", False, ring_twist(1, 5))), (NO[0], (1, "turned", 0, (True, 2, 3, 4, 0)))]
        self.right(WHEEL, OTHER_WHEEL, ("every", 0, (NO[0], (1, "turned", 0, ring_twist(1, 5))) + tuple(NO[2:5])))
        for first in told:
            self.wrong(WHEEL, OTHER_WHEEL, ("every", 0, first + tuple(NO[2:5])))
        self.wrong(WHEEL, OTHER_WHEEL, ("every", False, tuple(NO[:5])))


class NoRows(Case):
    def test_refused_ahead_of_all_else(self):
        web = ring(3)
        for thing in variants((2, 0), things()):
            if not oracle.is_row(3, thing):
                for paper in (UNLIKE, None, thing):
                    self.refused(NoRow, {}, right_no, web, thing, web, (), paper)
                    self.refused(NoRow, {}, right_no, web, (), web, thing, paper)
        self.refused(NoRow, {}, right_no, bare(2), (2,), bare(3), (2,), UNLIKE)
        self.refused(NoRow, {}, right_no, bare(3), (2,), bare(2), (2,), UNLIKE)
        self.refused(NoRow, {}, right_no, bare(3), (0, 0), bare(2), (), UNLIKE)


class Carried(Looks):
    def test_right_just_where_it_was_right(self):
        for one, other in unlike_pairs():
            for paper in some_papers(one, (), other, ()):
                for naming, other_naming in zip(some_namings(len(one)), some_namings(len(other))[::-1]):
                    told = carried_no(paper, naming, other_naming)
                    new, new_other = renamed(one, naming), renamed(other, other_naming)
                    self.assertIs(right_no(new, (), new_other, (), told), True)
                    # By other namings it is as right as it was for the webs that these would lead there.
                    self.judge(new, other, told)
                    self.judge(one, new_other, told)

    def test_with_rows(self):
        for row, other_row in itertools.product(some_rows(6), repeat=2):
            if not oracle.namings(TRIANGLES, row, HEXAGON, other_row):
                paper = a_paper(TRIANGLES, row, HEXAGON, other_row, chance(4))
                for naming in some_namings(6):
                    told = carried_no(paper, naming, naming)
                    rows = (carried_row(row, naming), carried_row(other_row, naming))
                    self.right(renamed(TRIANGLES, naming), renamed(HEXAGON, naming), told, rows)

    def test_small_webs(self):
        webs = small_webs()[300:580:9]
        for one, other in zip(webs, mixed(chance(1), webs)):
            if len(one) == len(other) and not oracle.namings(one, (), other, ()):
                for paper in some_papers(one, (), other, (), 1):
                    self.right(one, other, paper)


if __name__ == "__main__":
    unittest.main()
