"""Answers about two webs, and all namings of one to the other (points [44] to [47], and [4])."""

import itertools
import math
import unittest

from likewebs.carrying import carried_no
from likewebs.covers import carried_cover
from likewebs.errors import NoJoin, NoSuch, TooManyNamings
from likewebs.forms import cover_of, same_form
from likewebs.house import House
from likewebs.namings import back, stays, then
from likewebs.refine import root
from likewebs.seeking import sought
from likewebs.things import is_thing
from likewebs.twowebs import (
    BY, MOST_TOLD, answer, early, joined, namings, namings_many, right_answer, stand_after, turned_about,
)
from likewebs.webs import Web, renamed
from tests import oracle
from tests.common import (
    HEXAGON, OTHER_WHEEL, TRIANGLES, WHEEL, Case, all_webs, around, bare, beside, chain, edge_webs, few_things, full,
    great_webs, in_time, knotty_webs, ring, small_webs, some_namings, some_web, things, told_elsewhere, unlike_pairs,
    variants,
)
from tests.makers import some_covers, some_papers

WORDS = ("early", "search", "forms")
UNLIKE = ("unlike",)
LEAF = ("leaf",)
PAIR = Web((0, 5), ((1, 0, 7),))
# Parted behind 0, 1, 2, 3 and 4 rounds: so far from the ends they are seen.
LATE = [(beside(chain(many), ring(12 - many)), chain(12)) for many in (1, 2, 3, 6, 7)]
CHAINS = (beside(chain(3), chain(3)), beside(chain(2), chain(4)))


def some_pairs():
    """Pairs of webs: alike, parted by few rounds, by a search alone, of unlike sizes, of no corners."""
    told = [(web, renamed(web, some_namings(len(web))[-1])) for web in edge_webs()[:12] + knotty_webs()[:8]]
    told += unlike_pairs() + [(other, one) for one, other in unlike_pairs()] + LATE + [CHAINS]
    told += [(Web(()), Web(())), (Web(()), Web((0,))), (bare(3), bare(4)), (Web((1,)), Web((2,))), (PAIR, Web((5, 0)))]
    return told


def right_answers(one, other):
    """Right answers of every kind about two webs, told ones and others."""
    word, told = sought(one, (), other, ())
    if word == "naming":
        return [("alike", naming) for naming in oracle.namings(one, (), other, ())[:6]]
    answers = [("early", rounds) for rounds in range(13) if oracle.parts_after(one, other, rounds)]
    answers += [("search", told)] + [("search", paper) for paper in some_papers(one, (), other, (), 2)]
    covers = [cover_of(one)] + some_covers(one, (), 1), [cover_of(other)] + some_covers(other, (), 1)
    return answers + [("forms", cover, other_cover) for cover, other_cover in zip(*covers)]


class Looks(Case):
    def judge(self, one, other, thing):
        """What is told of the thing, which the document's points, told once more, must tell too."""
        wanted = oracle.right_answer(one, other, thing)
        self.assertIs(self.call(right_answer, one, other, thing), wanted)
        return wanted

    def right(self, one, other, thing):
        self.assertIs(self.judge(one, other, thing), True)

    def wrong(self, one, other, thing):
        self.assertIs(self.judge(one, other, thing), False)


class Rounds(Case):
    def test_values(self):
        self.same(BY, "search")
        self.same(MOST_TOLD, 1000)

    def test_stand_after(self):
        self.same(stand_after(Web(()), 0), ())
        self.same(stand_after(Web(()), 12), ())
        self.same(stand_after(PAIR, 0), ((0,), (1,)))
        self.same(stand_after(chain(4), 0), ((0, 1, 2, 3),))
        self.same(stand_after(chain(4), 1), ((3,), (0,), (1, 2)))
        self.same(stand_after(chain(4), 2), ((3,), (0,), (1,), (2,)))
        self.same(stand_after(chain(4), 3), ((3,), (0,), (1,), (2,)))
        for web in edge_webs() + knotty_webs()[:6]:
            for rounds in range(13):
                self.same(self.call(stand_after, web, rounds), oracle.stand_after(web, rounds))
            # Behind those that change something it stays the root.
            self.same(stand_after(web, 12), root(web))

    def test_early(self):
        self.assertIs(early(Web(()), Web(())), None)
        self.same(early(Web(()), Web((0,))), 0)
        self.same(early(Web((1,)), Web((2,))), 0)
        self.assertIs(early(TRIANGLES, HEXAGON), None)
        self.same([early(one, other) for one, other in LATE], [0, 1, 2, 3, 4])
        self.same(early(*CHAINS), 1)
        for one, other in some_pairs():
            self.same(self.call(early, one, other), oracle.early(one, other))
            self.same(early(other, one), early(one, other))

    def test_early_of_few_corners(self):
        webs = list(all_webs(3, 1, 1))[::5] + list(all_webs(2, 1, 2))[::2] + [chain(4), ring(4), bare(4)]
        for one, other in itertools.product(webs, repeat=2):
            self.same(early(one, other), oracle.early(one, other))


class RightAnswer(Looks):
    def test_alike(self):
        self.right(Web(()), Web(()), ("alike", ()))
        self.right(PAIR, PAIR, ("alike", (0, 1)))
        self.right(PAIR, renamed(PAIR, (1, 0)), ("alike", (1, 0)))
        self.wrong(PAIR, PAIR, ("alike", (1, 0)))
        self.wrong(PAIR, Web((0, 5)), ("alike", (0, 1)))
        self.right(bare(12), bare(12), ("alike", stays(12)[::-1]))
        for thing in ((0,), (0, 1, 2), [0, 1], (False, True), (0, True), (0, 0), None, (), "", "01", {0: 0, 1: 1}):
            self.wrong(bare(2), bare(2), ("alike", thing))

    def test_early(self):
        for one, other in LATE + [(Web(()), bare(1)), (TRIANGLES, HEXAGON), (ring(3), ring(3)), (chain(3), ring(3))]:
            for rounds in range(-2, 15):
                self.judge(one, other, ("early", rounds))
        one, other = LATE[3]
        self.wrong(one, other, ("early", 2))
        self.right(one, other, ("early", 3))
        self.right(one, other, ("early", 4))
        self.right(one, other, ("early", 12))
        for rounds in (-1, 13, 10 ** 9, 10 ** 40, -10 ** 40, True, False, None, "3", (3,), [3], "", 3.0):
            self.wrong(one, other, ("early", rounds))
        # Where all rounds part them, too.
        for rounds in (-1, 13, True, False, None, (0,)):
            self.wrong(bare(1), bare(2), ("early", rounds))
        self.right(bare(1), bare(2), ("early", 0))
        self.right(bare(1), bare(2), ("early", 1))

    def test_search(self):
        self.right(bare(1), bare(2), ("search", UNLIKE))
        self.wrong(bare(2), bare(2), ("search", UNLIKE))
        self.wrong(TRIANGLES, HEXAGON, ("search", UNLIKE))
        for one, other in unlike_pairs()[:6]:
            for paper in some_papers(one, (), other, ()):
                self.right(one, other, ("search", paper))
                self.judge(other, one, ("search", paper))
                self.wrong(one, one, ("search", paper))

    def test_forms(self):
        self.right(bare(1), Web((1,)), ("forms", LEAF, LEAF))
        self.wrong(bare(1), bare(1), ("forms", LEAF, LEAF))
        self.wrong(Web(()), Web(()), ("forms", LEAF, LEAF))
        self.right(Web(()), bare(1), ("forms", LEAF, LEAF))
        for one, other in unlike_pairs()[:7]:
            for cover, other_cover in zip(some_covers(one, ()), some_covers(other, ())):
                self.right(one, other, ("forms", cover, other_cover))
                self.right(other, one, ("forms", other_cover, cover))
                self.judge(one, other, ("forms", other_cover, cover))
                self.wrong(one, one, ("forms", cover, cover))
                self.wrong(one, other, ("forms", cover, LEAF))
                self.wrong(one, other, ("forms", LEAF, other_cover))
        # Right covers, but of alike webs.
        one, other = HEXAGON, renamed(HEXAGON, (1, 0, 2, 3, 4, 5))
        self.wrong(one, other, ("forms", cover_of(one), cover_of(other)))

    def test_other_words_and_shapes(self):
        one, other = TRIANGLES, HEXAGON
        for told in right_answers(one, other) + [("alike", stays(6))]:
            for word in ("Alike", "unlike", "naming", "no", "", "form", "searches", "early ", None, 0, True, ("search",),
                         WEB, "alike", "early", "search", "forms"):
                self.judge(one, other, (word,) + told[1:])
            for thing in (told[:1], told + ((),), told + told[1:], list(told), (told,), told[1:], (told[0], told[1:]),
                          told[::-1], {0: told[0], 1: told[1]}):
                self.wrong(one, other, thing)
        for thing in things():
            self.wrong(one, other, thing)
            self.wrong(bare(1), Web((1,)), thing)
            for word in WORDS + ("alike",):
                self.judge(one, other, (word, thing))
                self.judge(bare(1), Web((1,)), (word, thing))
                self.judge(bare(1), Web((1,)), (word, thing, LEAF))
                self.judge(bare(1), Web((1,)), (word, LEAF, thing))
                self.judge(Web(()), Web(()), (word, thing))

    def test_bent_at_every_place_and_depth(self):
        odd = few_things() + ["no", "turned", "every", "down", "left", "branch", "search", UNLIKE, LEAF, 3, 4, 5, 12, 13]
        few = [None, True, 1, -1, (), [], "no", "turned", "down", UNLIKE, LEAF]
        pairs = [(WHEEL, OTHER_WHEEL, few), CHAINS + (few,), (bare(2), Web((0, 1)), odd), (bare(2), full(2), odd)]
        for one, other, strange in pairs + [(beside(ring(3), ring(3)), ring(6), few)]:
            # Of each word the last one.
            for thing in {told[0]: told for told in right_answers(one, other)}.values():
                self.right(one, other, thing)
                for bent in variants(thing, strange):
                    self.judge(one, other, bent)
        for thing in variants(("alike", (1, 2, 0)), odd):
            self.judge(ring(3), ring(3), thing)

    def test_some_pairs(self):
        pairs = some_pairs()
        for one, other in pairs:
            for told in right_answers(one, other):
                self.right(one, other, told)
        # Right about one pair alone.
        few = [pairs[at] for at in (0, 3, 9, -1, -2, -6)] + unlike_pairs()[:4]
        for one, other in few:
            for told in right_answers(one, other)[::2]:
                for web, home in few:
                    self.judge(web, home, told)


WEB = Web(())


class Answer(Looks):
    def test_alike(self):
        for one, other in some_pairs()[:20]:
            naming = sought(one, (), other, ())[1]
            for by in WORDS:
                self.same(self.call(answer, one, other, by=by), ("alike", naming))
            self.same(answer(one, other), ("alike", naming))
            self.right(one, other, ("alike", naming))

    def test_by_each_word(self):
        for one, other in some_pairs():
            if oracle.namings(one, (), other, ()) if len(one) < 9 else sought(one, (), other, ())[0] == "naming":
                continue
            told = self.call(answer, one, other, by="early")
            rounds = oracle.early(one, other)
            if rounds is None:
                self.same(told[0], "search")
            else:
                self.same(told, ("early", rounds))
            self.right(one, other, told)
            told = self.call(answer, one, other, by="search")
            self.same(told[0], "search")
            self.right(one, other, told)
            self.same(answer(one, other), told)
            told = self.call(answer, one, other, by="forms")
            self.same((told[0], len(told)), ("forms", 3))
            self.right(one, other, told)

    def test_the_same_each_time(self):
        for one, other in some_pairs():
            for by in WORDS:
                self.same(answer(one, other, by=by), answer(one, other, by=by))
        lines = ["from likewebs.twowebs import *", "for one, other in unlike_pairs():"]
        lines += ["    for by in ('early', 'search', 'forms'):", "        print(answer(one, other, by=by))"]
        told = told_elsewhere(*lines)
        self.assertEqual(told[0], told[1])
        self.assertTrue(told[0])

    def test_anything_else_as_a_word(self):
        others = ["alike", "Early", "early ", "", "form", "naming", "unlike", "no"]
        for thing in list(variants("search", things())) + others + [("search",), ["search"], {"search": 1}, b"search"]:
            if not (type(thing) is str and thing in WORDS):
                # Ahead of all else: of alike webs, too.
                for one, other in ((TRIANGLES, HEXAGON), (PAIR, PAIR), (Web(()), Web(()))):
                    self.refused(NoSuch, {"word": thing}, answer, one, other, by=thing)
        self.refused(NoSuch, {"word": None}, answer, None, None, by=None)

    def test_handed_in_by_its_name(self):
        self.assertRaises(TypeError, answer, PAIR, PAIR, "search")
        self.assertRaises(TypeError, namings, PAIR, PAIR, 5)

    def test_of_unlike_sizes_and_of_no_corners(self):
        for one, other in itertools.permutations((Web(()), bare(1), bare(2), full(2), bare(12), full(11)), 2):
            self.same(answer(one, other, by="early"), ("early", 0))
            self.same(answer(one, other, by="search"), ("search", UNLIKE))
            self.right(one, other, answer(one, other, by="forms"))
        self.same(answer(Web(()), Web(())), ("alike", ()))

    def test_great_webs_in_a_few_seconds(self):
        webs = great_webs()
        for one, other in list(zip(webs, webs[1:])) + [(bare(12), full(12)), (bare(12), bare(11))]:
            for by in WORDS:
                told = in_time(self, answer, one, other, by=by)
                self.assertIs(in_time(self, right_answer, one, other, told), True)
                self.assertTrue(is_thing(told))


class Joined(Looks):
    """Three webs: one and two, two and three."""

    def all_ways(self, one, two, three):
        # Of each word the last one, and of namings a few.
        answers = [right_answers(one, two), right_answers(two, three)]
        firsts, seconds = [told[:3] if told[0][0] == "alike" else list({row[0]: row for row in told}.values())
                           for told in answers]
        for first in firsts:
            for second in seconds:
                if "alike" not in (first[0], second[0]):
                    self.refused(NoJoin, {}, joined, first, second)
                    continue
                told = self.call(joined, first, second)
                self.right(one, three, told)
                self.same(told, self.wanted(first, second))

    def wanted(self, first, second):
        """What comes of both, as the point tells it."""
        if first[0] == second[0]:
            return ("alike", then(first[1], second[1]))
        naming = first[1] if first[0] == "alike" else second[1]
        other = second if first[0] == "alike" else first
        if other[0] == "early":
            return other
        if other[0] == "search" and first[0] == "alike":
            return ("search", carried_no(other[1], back(naming), stays(len(naming))))
        if other[0] == "search":
            return ("search", carried_no(other[1], stays(len(naming)), naming))
        if first[0] == "alike":
            return ("forms", carried_cover(other[1], back(naming)), other[2])
        return ("forms", other[1], carried_cover(other[2], naming))

    def test_ordinary(self):
        self.same(joined(("alike", ()), ("alike", ())), ("alike", ()))
        self.same(joined(("alike", (1, 2, 0)), ("alike", (0, 2, 1))), ("alike", (2, 1, 0)))
        self.same(joined(("alike", (1, 0)), ("early", 3)), ("early", 3))
        self.same(joined(("early", 0), ("alike", (1, 0))), ("early", 0))
        self.same(joined(("alike", (1, 0)), ("search", UNLIKE)), ("search", UNLIKE))
        self.same(joined(("search", UNLIKE), ("alike", (1, 0))), ("search", UNLIKE))
        self.same(joined(("alike", (0,)), ("forms", LEAF, LEAF)), ("forms", LEAF, LEAF))

    def test_no_join(self):
        unlike = [("early", 0), ("search", UNLIKE), ("forms", LEAF, LEAF), ("early", 5)]
        for first, second in itertools.product(unlike, repeat=2):
            self.refused(NoJoin, {}, joined, first, second)

    def test_each_way(self):
        for one, other in unlike_pairs() + LATE[:3] + [(bare(2), bare(3)), (Web(()), bare(1)), (chain(3), ring(3))]:
            renamings = [some_namings(len(web))[-1] for web in (one, other)]
            self.all_ways(renamed(one, renamings[0]), one, other)
            self.all_ways(one, other, renamed(other, renamings[1]))
        for web in edge_webs()[:10] + knotty_webs()[:5]:
            new = [renamed(web, naming) for naming in some_namings(len(web))]
            self.all_ways(web, new[-1], new[-2 % len(new)])

    def test_webs_of_unlike_sizes(self):
        # A paper of unlike tells of no corners, and a cover only of those of its own web.
        for by in WORDS:
            told = answer(ring(3), bare(12), by=by)
            self.right(renamed(ring(3), (2, 0, 1)), bare(12), joined(("alike", (1, 2, 0)), told))
            told = answer(bare(12), PAIR, by=by)
            self.right(bare(12), renamed(PAIR, (1, 0)), joined(told, ("alike", (1, 0))))

    def test_long_rows(self):
        one, other = around(WHEEL, WHEEL), around(WHEEL, OTHER_WHEEL)
        for by in WORDS:
            told, left, right = answer(one, other, by=by), one, other
            for naming in some_namings(12)[1:]:
                told, left = joined(("alike", back(naming)), told), renamed(left, naming)
                told, right = joined(told, ("alike", naming[::-1])), renamed(right, naming[::-1])
                self.right(left, right, told)


class TurnedAbout(Looks):
    def test_ordinary(self):
        self.same(turned_about(Web(()), Web(()), ("alike", ())), ("alike", ()))
        self.same(turned_about(ring(3), ring(3), ("alike", (1, 2, 0))), ("alike", (2, 0, 1)))
        self.same(turned_about(bare(1), bare(2), ("early", 7)), ("early", 7))
        self.same(turned_about(bare(1), bare(2), ("search", UNLIKE)), ("search", UNLIKE))
        cover = cover_of(bare(2))
        self.same(turned_about(bare(1), bare(2), ("forms", LEAF, cover)), ("forms", cover, LEAF))

    def test_each_is_right(self):
        for one, other in some_pairs():
            for told in right_answers(one, other)[::2]:
                turned = self.call(turned_about, one, other, told)
                self.right(other, one, turned)
                self.same(turned[0], told[0])
                if told[0] == "alike":
                    self.same(turned[1], back(told[1]))
                if told[0] == "early":
                    self.same(turned, told)
                if told[0] == "forms":
                    self.same(turned, ("forms", told[2], told[1]))
                if told[0] != "search":
                    self.same(turned_about(other, one, turned), told)

    def test_a_paper_of_one_side_is_none_of_the_other(self):
        one, other = beside(ring(3), ring(4)), ring(7)
        for paper in some_papers(one, (), other, ()):
            self.right(other, one, turned_about(one, other, ("search", paper)))


class Namings(Case):
    def look(self, one, other):
        wanted = tuple(oracle.namings(one, (), other, ()))
        self.same(self.call(namings_many, one, other), len(wanted))
        most = max(1000, len(wanted))
        self.same(self.call(namings, one, other, most=most), wanted)
        # A bound just met, and one less.
        self.same(namings(one, other, most=len(wanted)), wanted)
        if wanted:
            for bound in {len(wanted) - 1, 0}:
                self.refused(TooManyNamings, {"many": len(wanted), "bound": bound}, namings, one, other, most=bound)
        if len(wanted) <= 1000:
            self.same(namings(one, other), wanted)
        else:
            self.refused(TooManyNamings, {"many": len(wanted), "bound": 1000}, namings, one, other)

    def test_ordinary(self):
        self.same(namings(Web(()), Web(())), ((),))
        self.same(namings(PAIR, PAIR), ((0, 1),))
        self.same(namings(PAIR, Web((5, 0), ((0, 1, 7),))), ((1, 0),))
        self.same(namings(PAIR, Web((5, 0))), ())
        self.same(namings(PAIR, Web((5, 0)), most=0), ())
        self.same(namings(ring(3), ring(3)), ((0, 1, 2), (1, 2, 0), (2, 0, 1)))
        self.same(namings(bare(3), bare(3)), tuple(itertools.permutations(range(3))))
        self.same(namings_many(bare(12), bare(12)), math.factorial(12))
        self.same(namings_many(bare(12), bare(11)), 0)

    def test_some_pairs(self):
        for one, other in some_pairs():
            if len(one) < 9 or one.arrows:
                self.look(one, other)

    def test_few_corners(self):
        webs = list(all_webs(3, 1, 1))[::4] + small_webs()[-29::4]
        for one, other in itertools.product(webs, repeat=2):
            self.look(one, other)

    def test_many(self):
        self.look(bare(6), bare(6))
        self.look(bare(7), bare(7))
        self.look(beside(full(3), full(3)), renamed(beside(full(3), full(3)), (0, 3, 1, 4, 2, 5)))
        self.look(around(ring(5), ring(5)), renamed(around(ring(5), ring(5)), some_namings(12)[-1]))

    def test_twelve_corners_without_arrows(self):
        many = math.factorial(12)
        for most in (0, 1, 1000, many - 1):
            with self.assertRaises(TooManyNamings) as caught:
                in_time(self, namings, bare(12), bare(12), most=most)
            self.same((caught.exception.many, caught.exception.bound), (many, most))
        with self.assertRaises(TooManyNamings) as caught:
            in_time(self, namings, full(12), full(12))
        self.same((caught.exception.many, caught.exception.bound), (many, 1000))
        self.same(in_time(self, namings, bare(12), full(12)), ())


class AllOrders(Looks):
    """Over all orders of few corners: answers, forms, namings_many and a house's classes say the same."""

    def look(self, webs):
        names = ["".join(signs) for signs in itertools.product("abcdefgh", repeat=2)][:len(webs)]
        house = House()
        for name, web in zip(names, webs):
            house.put(name, web)
        home = {name: row for row in house.classes() for name in row}
        for (name, one), (other_name, other) in itertools.product(list(zip(names, webs)), repeat=2):
            orders = [order for order in itertools.permutations(range(len(one))) if leads_there(one, order, other)]
            self.same(namings_many(one, other), len(orders))
            self.assertIs(same_form(one, other), bool(orders))
            self.assertIs(home[name] is home[other_name], bool(orders))
            for by in WORDS:
                told = answer(one, other, by=by)
                self.right(one, other, told)
                self.assertIs(told[0] == "alike", bool(orders))
            for order in itertools.permutations(range(len(one))):
                self.assertIs(right_answer(one, other, ("alike", order)), order in orders)
            if orders:
                # No other answer is right.
                for told in [("early", rounds) for rounds in range(13)] + [("search", UNLIKE)]:
                    self.wrong(one, other, told)
                self.wrong(one, other, ("forms", cover_of(one), cover_of(other)))

    def test_two_and_three_corners(self):
        self.look([Web(()), Web((0,)), Web((1,))] + list(all_webs(2, 1, 2)))
        self.look(list(all_webs(3, 1, 1))[::3])
        self.look(list(all_webs(3, 1, 2))[5::23])

    def test_four_corners(self):
        self.look(small_webs()[-29::3] + [some_web(4, seed, colours=1, marks=1, blanks=1) for seed in range(8)])


def leads_there(one, order, other):
    return len(one) == len(other) and oracle.renamed_parts(one, order) == (other.colours, other.arrows)


if __name__ == "__main__":
    unittest.main()
