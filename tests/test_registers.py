"""Registers of houses (point [56])."""

import itertools
import unittest

from likewebs.errors import NoDeed, NoRegister, NoSuch
from likewebs.forms import cover_of
from likewebs.house import House
from likewebs.registers import house_of, register_of, right_register
from likewebs.texts import read
from likewebs.things import is_thing, text_of
from likewebs.twowebs import answer
from likewebs.webs import Web, renamed
from tests import oracle
from tests.common import (
    HEXAGON, OTHER_WHEEL, TRIANGLES, WHEEL, Case, bare, beside, chain, few_things, full, great_webs, in_time, knotty_webs,
    ring, some_namings, some_web, things, told_elsewhere, unlike_pairs, variants,
)
from tests.makers import some_covers, some_papers
from tests.test_house import NAMES, house_with, webs_of

WORDS = ("early", "search", "forms")
PAIR = Web((0, 5), ((1, 0, 7),))
UNLIKE = ("unlike",)
LEAF = ("leaf",)
SMALL = {"a": PAIR, "b": renamed(PAIR, (1, 0)), "c": bare(2), "d": Web((5, 0), ((0, 1, 7),))}
EMPTY = ((), (), ())
ONE = ((("a", (), ()),), (("a", ()),), ())


def some_houses():
    """Webs by names: none, one, alike ones, ones that few rounds or a search part, many."""
    told = [{}, {"a": Web(())}, {"abcdefgh": bare(12)}, SMALL, {"a": TRIANGLES, "b": HEXAGON, "z": TRIANGLES}]
    told.append({name: ring(3) for name in NAMES[:6]})
    told.append({name: web for name, web in zip("qwertyuiop", [web for pair in unlike_pairs()[:5] for web in pair])})
    told.append({name: some_web(3, at % 6, colours=1, marks=1) for at, name in enumerate(NAMES[:20])})
    told.append({name: renamed(WHEEL, naming) for name, naming in zip("edcba", some_namings(5))} | {"m": OTHER_WHEEL})
    return told


class Looks(Case):
    def judge(self, thing):
        """What is told of the thing, which the document's points, told once more, must tell too."""
        wanted = oracle.right_register(thing)
        self.assertIs(self.call(right_register, thing), wanted)
        return wanted

    def right(self, thing):
        self.assertIs(self.judge(thing), True)
        return self.call(house_of, thing)

    def wrong(self, thing):
        self.assertIs(self.judge(thing), False)
        self.refused(NoRegister, {}, house_of, thing)


class RegisterOf(Looks):
    def look(self, house, by=None):
        """The told register, which is right and tells the house's webs and classes."""
        ahead = house.diary()
        told = register_of(house) if by is None else register_of(house, by=by)
        self.same(house.diary(), ahead)
        self.right(told)
        self.assertTrue(is_thing(told))
        webs = webs_of(house)
        self.same(told[0], tuple((name, webs[name].colours, webs[name].arrows) for name in sorted(webs)))
        self.same([[first] + [name for name, _ in others] for first, others in told[1]], house.classes())
        pairs = list(itertools.combinations([first for first, _ in told[1]], 2))
        self.same(len(told[2]), len(pairs))
        for (one, other), given in zip(pairs, told[2]):
            self.same(given, answer(webs[one], webs[other], by=by or "search"))
        return told

    def test_ordinary(self):
        self.same(register_of(House()), EMPTY)
        self.same(register_of(house_with({"a": Web(())})), ONE)
        told = register_of(house_with(SMALL))
        self.same(told[0], (("a", (0, 5), ((1, 0, 7),)), ("b", (5, 0), ((0, 1, 7),)), ("c", (0, 0), ()),
                            ("d", (5, 0), ((0, 1, 7),))))
        self.same(told[1], (("a", (("b", (1, 0)), ("d", (1, 0)))), ("c", ())))
        self.same(told[2], (("search", UNLIKE),))
        self.same(register_of(house_with(SMALL), by="early")[2], (("early", 0),))
        self.same(register_of(house_with(SMALL), by="forms")[2], (("forms", LEAF, cover_of(bare(2))),))

    def test_houses_by_each_word(self):
        for webs in some_houses():
            house = house_with(webs)
            self.same(self.look(house), register_of(house, by="search"))
            for by in WORDS:
                self.same(self.look(house, by), register_of(house, by=by))

    def test_the_order_of_answers(self):
        webs = {"a": bare(1), "b": bare(2), "c": bare(3), "d": ring(3)}
        told = self.look(house_with(webs), "forms")
        covers = [cover_of(webs[name]) for name in "abcd"]
        self.same(told[2], tuple(("forms", one, other) for one, other in itertools.combinations(covers, 2)))

    def test_a_search_where_no_rounds_part(self):
        told = self.look(house_with({"a": TRIANGLES, "b": HEXAGON, "c": bare(6)}), "early")
        self.same([given[0] for given in told[2]], ["search", "early", "early"])

    def test_anything_else_as_a_word(self):
        for thing in things() + ["alike", "Search", "search ", "", ("search",), ["search"]]:
            if not (type(thing) is str and thing in WORDS):
                for house in (House(), house_with(SMALL), None):
                    self.refused(NoSuch, {"word": thing}, register_of, house, by=thing)
        self.assertRaises(TypeError, register_of, House(), "search")

    def test_while_the_house_is_visited(self):
        house = house_with(SMALL)
        wanted = register_of(house)
        self.same(house.visit(lambda name, web: register_of(house)), [wanted] * 4)

    def test_as_the_webs_stand(self):
        house = house_with(SMALL)
        for deed in (lambda: house.drop("a"), lambda: house.enter("b"), lambda: house.back(), lambda: house.twin("c", "e"),
                     lambda: house.several([("drop", "b"), ("tie", "c", 0, 1)]), lambda: house.back(), lambda: house.again()):
            deed()
            self.same(self.look(house, "forms"), register_of(house_with(webs_of(house)), by="forms"))

    def test_forty_webs_in_a_few_seconds(self):
        webs = great_webs() + [beside(bare(many), ring(12 - many)) for many in range(1, 6)] + [full(11), chain(12)]
        webs = [renamed(web, naming) for web in webs for naming in (some_namings(12)[0], some_namings(12)[-1])
                if len(web) == 12][:39] + [Web(())]
        house = house_with(dict(zip(NAMES, webs)))
        self.same(len(house.names()), 40)
        for by in WORDS:
            told = in_time(self, register_of, house, by=by)
            self.assertIs(in_time(self, right_register, told), True)
            text = in_time(self, text_of, told)
            self.same(in_time(self, read, text), told)
            self.same(in_time(self, house_of, read(text)).names(), NAMES[:40])

    def test_the_same_each_time(self):
        lines = ["from likewebs.registers import *", "from likewebs.house import House", "house = House()"]
        lines += ["for at, web in enumerate(knotty_webs()[:9]):", "    house.put('abcdefghi'[at], web)"]
        told = told_elsewhere(*lines, "for by in ('early', 'search', 'forms'):", "    print(register_of(house, by=by))")
        self.assertEqual(told[0], told[1])
        self.assertTrue(told[0])


class RightRegister(Looks):
    def test_small_ones(self):
        self.right(EMPTY)
        self.right(ONE)
        for thing in ((), ((), ()), ((), (), (), ()), [(), (), ()], ([], (), ()), ((), [], ()), ((), (), []), (0, (), ()), (None,) * 3,
                      ((), (("a", ()),), ()), (ONE[0], (), ()), ((), (), (UNLIKE,)), ((), (), (("early", 0),))):
            self.wrong(thing)

    def test_webs(self):
        row = ("a", (0, 0), ((0, 1, 5), (1, 0, 2)))
        self.right(((row,), (("a", ()),), ()))
        for bad in (("a", (0, 0), ((1, 0, 2), (0, 1, 5))), ("a", [0, 0], row[2]), ("a", (0, 0), list(row[2])), row[:2], row + ((),),
                    ("A", (0, 0), ()), ("", (0, 0), ()), ("abcdefghi", (), ()), (5, (), ()), ("a", (0, True), ()), ("a", (0,) * 13, ()),
                    ("a", (-1,), ()), ("a", (10 ** 9 + 1,), ()), ("a", (0, 0), ((0, 0, 1),)), ("a", (0, 0), ((0, 1, 0),)),
                    ("a", (0, 0), ((0, 1, 1), (0, 1, 2))), ("a", (0, 0), ((0, 2, 1),)), ("a", 0, ()), ("a", (), 0), Web((0,)),
                    ("a", Web((0, 0))), ("a", (0, 0), ([0, 1, 5],))):
            self.wrong(((bad,), (("a", ()),), ()))
        two = (("a", (), ()), ("b", (1,), ()))
        classes = (("a", ()), ("b", ()))
        self.right((two, classes, (("early", 0),)))
        # Not rising, a name twice.
        self.wrong((two[::-1], classes, (("early", 0),)))
        self.wrong((two[:1] * 2, classes[:1], ()))
        self.wrong((two[:1] * 2, classes[:1] * 2, (("early", 0),)))

    def test_how_many_webs(self):
        for many in (39, 40, 41, 42):
            names = NAMES[:many]
            thing = (tuple((name, (), ()) for name in names), ((names[0], tuple((name, ()) for name in names[1:])),), ())
            self.assertIs(self.judge(thing), many <= 40)

    def test_classes(self):
        webs, classes, apart = register_of(house_with(SMALL))
        (first, others), last = classes
        self.right((webs, classes, apart))
        for bad in (
            # Not rising, a name twice or nowhere, one that is no web's, one below the first.
            (last, (first, others)), ((first, others[::-1]), last), ((first, others + others[1:]), last), ((first, others[:1]), last),
            ((first, others),), ((first, others), last, last), ((first, others), last, ("d", ())), ((first, others), ("e", ())),
            ((first, others + (("e", (0, 1)),)), last), (("b", (("a", (1, 0)), ("d", (0, 1)))), last),
            ((first, (("a", (0, 1)),) + others), last), (("b", (("d", (0, 1)),)), last), ((first, others + (("c", (0, 1)),)),),
            ((first, others), ("c", (("d", (0, 1)),))), ((first, (("b", (1, 0)), ("c", (0, 1)), ("d", (1, 0)))),),
            # Namings that do not lead there.
            ((first, (("b", (0, 1)), others[1])), last), ((first, (("b", (1, 0, 2)), others[1])), last),
            ((first, (("b", [1, 0]), others[1])), last), ((first, (("b", (True, 0)), others[1])), last),
            # Other shapes.
            ((first, others), last[:1]), ((first, others, ()), last), ([first, others], last), ((first, list(others)), last),
            (first, others), (), None, 0,
        ):
            self.wrong((webs, bad, apart))

    def test_classes_parted_or_put_together(self):
        webs = (("a", (0, 0), ()), ("b", (0, 0), ()), ("c", (0, 0), ()))
        naming = (1, 0)
        self.right((webs, (("a", (("b", naming), ("c", naming))),), ()))
        for answers in ((("early", 0),), (("search", UNLIKE),), (("alike", naming),), (("forms", cover_of(bare(2)), cover_of(bare(2))),), ()):
            self.wrong((webs, (("a", (("b", naming),)), ("c", ())), answers))
            self.wrong((webs, (("a", (("c", naming),)), ("b", ())), answers))
            self.wrong((webs, (("a", ()), ("b", ()), ("c", ())), answers * 3))
        webs = (("a", (0, 0), ()), ("b", (0, 1), ()))
        self.right((webs, (("a", ()), ("b", ())), (("early", 0),)))
        for naming in itertools.permutations(range(2)):
            self.wrong((webs, (("a", (("b", naming),)),), ()))
            self.wrong((webs, (("a", ()), ("b", ())), (("alike", naming),)))

    def test_one_answer_for_another(self):
        webs = {"a": TRIANGLES, "b": HEXAGON, "c": chain(6), "d": beside(chain(2), chain(4)), "e": bare(1)}
        for by in WORDS:
            told = register_of(house_with(webs), by=by)
            answers = told[2]
            self.right(told)
            for at, other in itertools.product(range(len(answers)), repeat=2):
                self.judge(told[:2] + (answers[:at] + (answers[other],) + answers[at + 1:],))
            for order in list(itertools.permutations(range(len(answers))))[1:40]:
                self.judge(told[:2] + (tuple(answers[at] for at in order),))
            for at in range(len(answers)):
                self.wrong(told[:2] + (answers[:at] + answers[at + 1:],))
                self.wrong(told[:2] + (answers[:at] + (answers[at],) + answers[at:],))
        # Answers by several words, made by others.
        for seed in range(3):
            names = "abcde"
            answers = []
            for at, (one, other) in enumerate(itertools.combinations(names, 2)):
                one, other = webs[one], webs[other]
                answers.append([("search", some_papers(one, (), other, ())[seed]), answer(one, other, by="early"),
                                ("forms", some_covers(one, ())[seed], some_covers(other, ())[seed])][(at + seed) % 3])
            self.right(register_of(house_with(webs))[:2] + (tuple(answers),))

    def test_covers_that_equal_right_ones_but_are_none(self):
        webs = {"a": bare(2), "b": Web((0, 1)), "c": full(2)}
        told = register_of(house_with(webs), by="forms")
        self.right(told)
        cover = told[2][0][1]
        bent = ("branch", ((False,) + cover[1][0][1:],) + cover[1][1:])
        self.assertEqual(cover, bent)
        for at in range(2):
            answers = list(told[2])
            answers[at] = ("forms", bent, answers[at][2])
            self.wrong(told[:2] + (tuple(answers),))
        # Another right one serves.
        for other in some_covers(bare(2), ()):
            self.right(told[:2] + ((("forms", other, told[2][0][2]),) + told[2][1:],))
            self.right(told[:2] + ((told[2][0], ("forms", other, told[2][1][2]), told[2][2]),))
        # A right one for one web is none for another.
        self.wrong(told[:2] + ((("forms", told[2][0][2], cover),) + told[2][1:],))

    def test_bent_at_every_place_and_depth(self):
        odd = few_things() + ["a", "b", "c", "search", "early", "alike", UNLIKE, LEAF, 5, 7, ((),)]
        few = [None, True, 1, "a", (), LEAF]
        for by in WORDS:
            told = register_of(house_with({"a": PAIR, "b": renamed(PAIR, (1, 0)), "c": bare(2)}), by=by)
            for thing in variants(told, odd):
                if self.judge(thing) is False:
                    self.refused(NoRegister, {}, house_of, thing)
        for webs in (SMALL | {"e": full(2), "f": Web(())}, {"a": WHEEL, "b": OTHER_WHEEL, "c": bare(5)}):
            for by in WORDS:
                for thing in variants(register_of(house_with(webs), by=by), few):
                    self.judge(thing)

    def test_anything(self):
        for thing in things():
            for other in (thing, (thing,), (thing, (), ()), ((), thing, ()), ((), (), thing), ((thing,), (), ()), ((), (thing,), ()),
                          ((), (), (thing,)), (((thing, (), ()),), (("a", ()),), ()), ((("a", thing, ()),), (("a", ()),), ()),
                          ((("a", (), thing),), (("a", ()),), ()), (ONE[0], ((thing, ()),), ()), (ONE[0], (("a", thing),), ()),
                          (ONE[0], ONE[1], thing), [thing], {0: thing}):
                if self.judge(other) is False:
                    self.refused(NoRegister, {}, house_of, other)

    def test_read_of_its_text(self):
        for webs in some_houses():
            for by in WORDS:
                told = register_of(house_with(webs), by=by)
                self.same(read(text_of(told)), told)
                self.right(read(text_of(told)))


class HouseOf(Looks):
    def test_its_webs_and_classes(self):
        for webs in some_houses():
            ahead = house_with(webs)
            for by in WORDS:
                house = self.call(house_of, register_of(ahead, by=by))
                self.assertIs(type(house), House)
                self.same(webs_of(house), {name: webs[name] for name in sorted(webs)})
                self.same(house.classes(), ahead.classes())
                self.same(house.names(), sorted(webs))
                self.assertIs(house.busy(), False)

    def test_its_diary_and_its_deeds_to_take_back(self):
        for many in (0, 1, 5, 15, 16, 20, 21, 40):
            thing = register_of(house_with({name: bare(at % 3) for at, name in reversed(list(enumerate(NAMES[:many])))}))
            house = house_of(thing)
            self.same(house.diary(), ([("in", "put"), ("out", "put", True)] * many)[-30:])
            self.refused(NoDeed, {}, house.again)
            for gone in range(min(many, 20)):
                self.same(house.names(), NAMES[:many - gone])
                house.back()
            self.refused(NoDeed, {}, house.back)
            for _ in range(min(many, 20)):
                house.again()
            self.same(house.names(), NAMES[:many])

    def test_a_new_house_each_time(self):
        thing = register_of(house_with(SMALL))
        one, other = house_of(thing), house_of(thing)
        one.drop("a")
        self.same(other.names(), ["a", "b", "c", "d"])
        self.same(register_of(other), thing)

    def test_whoever_made_it(self):
        # Its rows of classes are just the classes of alike webs.
        for webs in some_houses():
            for by in WORDS:
                thing = register_of(house_with(webs), by=by)
                self.same([[first] + [name for name, _ in others] for first, others in thing[1]], house_of(thing).classes())

    def test_knotty_webs(self):
        webs = dict(zip(NAMES, knotty_webs()))
        self.same(webs_of(house_of(register_of(house_with(webs), by="early"))), webs)


if __name__ == "__main__":
    unittest.main()
