"""Texts read to the very thing whose text they are (point [55])."""

import itertools
import unittest

from likewebs.covers import least
from likewebs.errors import NoText, NoWeb
from likewebs.forms import cover_of
from likewebs.grouping import group_of, right_group
from likewebs.seeking import sought
from likewebs.texts import read, read_web, web_text
from likewebs.things import text_of
from likewebs.twowebs import answer, right_answer
from likewebs.webs import Web
from tests import oracle
from tests.common import (
    Case, bare, chance, edge_webs, great_webs, knotty_webs, nested, small_webs, some_rows, things, told_elsewhere,
    unlike_pairs, variants,
)
from tests.makers import mixed

GREATEST = 10 ** 9
THINGS = [
    0, 7, 10, 42, 999999999, GREATEST, "a", "put", "abcdefgh", (), (0,), ("a",), (1, 2), ((),), ((), ()), (0, (), "z"),
    ("put", "a", (0, 5), ((0, 1, 7),)), (((1,), 2), "x", ((3, ()),)), (10, 0, GREATEST), ("abcdefgh", 999999999, ((((),),),)),
]
SIGNS = "019az() A,.-_'\n\t\u00e4\u0660\uff11\x00%"


class Looks(Case):
    def look(self, text):
        """Sees a text read to the thing whose text it is, or refused at the right place."""
        if oracle.is_text(text):
            thing = self.call(read, text)
            self.assertTrue(oracle.is_thing(thing))
            self.same(oracle.text(thing), text)
            self.same(text_of(thing), text)
            return True
        self.refused(NoText, {"at": oracle.longest(text)}, read, text)
        return False


class Read(Looks):
    def test_the_text_of_each_thing(self):
        for thing in THINGS + list(range(1200)) + [nested(tuple, 60), tuple(range(1000))]:
            self.same(self.call(read, text_of(thing)), thing)
            self.same(read(oracle.text(thing)), thing)

    def test_all_of_few_parts(self):
        atoms = [0, 1, 90, GREATEST, "a", "z", "abcdefgh", (), (0,), ("a", 1), ((),)]
        for one, other in itertools.product(atoms, repeat=2):
            for thing in ((one, other), ((one,), other), (one, (other,)), ((one, other),), (one, other, one)):
                self.same(read(text_of(thing)), thing)

    def test_told_places(self):
        for text, at in (
            ("(1  2)", 3), ("(1 2", 4), ("07", 1), ("(" * 100, 60), ("", 0), (" ", 0), (")", 0), ("(", 1), ("( ", 1), ("(0", 2),
            ("(0 ", 3), ("(0 )", 3), ("( 0)", 1), ("()(", 2), ("()()", 2), ("() ()", 2), ("0 ", 1), (" 0", 0), ("0 0", 1), ("00", 1),
            ("a b", 1), ("ab1", 2), ("1ab", 1), ("1000000000", None), ("1000000001", 9), ("10000000000", 10), ("2000000000", 9),
            ("9999999999", 9), ("999999999", None), ("12345678901234", 9), ("abcdefghi", 8), ("abcdefgh", None), ("A", 0), ("aB", 1),
            ("-1", 0), ("+1", 0), ("1.0", 1), ("1,2", 1), ("(1,2)", 2), ("[1]", 0), ("'a'", 0), ("None", 0), ("none", None),
            ("(a b))", 5), ("((a b)", 6), ("(00)", 2), ("(a 01 b)", 4), ("(a)\n", 3), ("\n(a)", 0), ("(a\n", 2), ("\u0661", 0),
            ("(\u00b2)", 1), ("(" * 60 + ")" * 60, None), ("(" * 61 + ")" * 61, 60), ("(" * 60, 60), ("(" * 60 + "0", 61),
            ("(" * 60 + "(", 60), ("((" + "(" * 58 + ")" * 58 + " " + "(" * 59, 119 + 58), ("(0)" * 2, 3), ("x" * 20000, 8),
            ("(" + "a " * 9000, 18001), ("0" * 20000, 1), ("1" * 20000, 9),
        ):
            if at is None:
                self.same(text_of(read(text)), text)
            else:
                self.refused(NoText, {"at": at}, read, text)

    def test_every_place_with_a_sign_put_in_changed_taken_out_or_doubled(self):
        many = [0, 0]
        for thing in THINGS + [(1000000000, 2), ("abcdefgh", (1,)), ((0, 0), ((0, 1, 5),))]:
            text = text_of(thing)
            bent = [text[:at] + text[at + 1:] for at in range(len(text))]
            bent += [text[:at] + text[at] + text[at:] for at in range(len(text))]
            bent += [text[:at] for at in range(len(text))] + [text[at:] for at in range(len(text))]
            for sign in SIGNS:
                bent += [text[:at] + sign + text[at:] for at in range(len(text) + 1)]
                bent += [text[:at] + sign + text[at + 1:] for at in range(len(text))]
            for other in bent:
                many[self.look(other)] += 1
        # Both come often.
        self.assertGreater(min(many), 100)

    def test_all_short_texts(self):
        for long in range(6):
            for signs in itertools.product("0a() ", repeat=long):
                self.look("".join(signs))
        for long in range(5):
            for signs in itertools.product("01z() A", repeat=long):
                self.look("".join(signs))

    def test_numbers(self):
        for number in (0, 1, 9, 10, 99, 100, 999999998, 999999999, GREATEST):
            for text in (f"{number}", f"({number})", f"(a {number} b)", f"{number}0", f"0{number}", f"({number}0)", f"+{number}",
                         f"{number} ", f"({number} {number})", f"{number}a", f"a{number}"):
                self.look(text)
        for number in (GREATEST + 1, 2 * GREATEST, 10 ** 10, 10 ** 12, 10 ** 40, 1999999999, 9999999999, 1000000009, 1000000010):
            for text in (f"{number}", f"({number})", f"(a {number})", f"(a {number} ((", f"-{number}"):
                self.assertFalse(self.look(text))

    def test_words(self):
        for long in range(1, 12):
            for text in ("a" * long, "(" + "z" * long + ")", "(0 " + "m" * long + " 1)", "a" * long + "0"):
                self.look(text)
        for number in range(600):
            for text in (chr(number), "a" + chr(number), "(" + chr(number) + ")", "(a " + chr(number)):
                self.look(text)

    def test_brackets(self):
        for deep in (1, 2, 58, 59, 60, 61, 62, 80, 100):
            for inner in ("", "0", "a b", " ", "07"):
                for more in (0, -1, 1):
                    self.look("(" * deep + inner + ")" * (deep + more))
            self.look("(0 " + "(" * (deep - 1) + ")" * (deep - 1) + ")")
            self.look("(" * (deep - 1) + ")" * (deep - 2) + " " + "(" * deep)

    def test_texts_joined(self):
        texts = [text_of(thing) for thing in THINGS[:14]]
        for one, other in itertools.product(texts, repeat=2):
            for between in ("", " ", "  ", "\n", ","):
                self.look(one + between + other)
                self.look("(" + one + between + other + ")")

    def test_some_long_texts(self):
        for seed in range(40):
            numbers = chance(seed)
            text = "".join("0123456789abyz(()) "[next(numbers) % 19] for _ in range(60))
            self.look(text)
            self.look("(" + text)

    def test_things_that_are_no_texts(self):
        for thing in things() + [b"0", b"(a)", ("(a)",), ["(a)"], 0, 5, {"a": 1}]:
            if not isinstance(thing, str):
                self.refused(NoText, {"at": None}, read, thing)
                self.refused(NoText, {"at": None}, read_web, thing)
            elif len(thing) < 100:
                self.look(thing)

    def test_texts_of_a_register_s_size(self):
        thing = tuple((at, ("a", at)) for at in range(20000))
        self.same(read(text_of(thing)), thing)


class Webs(Case):
    def test_ordinary(self):
        self.same(web_text(Web(())), "(() ())")
        self.same(web_text(Web((7,))), "((7) ())")
        self.same(web_text(Web((0, 5), ((1, 0, 7),))), "((0 5) ((1 0 7)))")
        self.same(read_web("(() ())"), Web(()))
        self.same(read_web("((0 5) ((1 0 7)))"), Web((0, 5), ((1, 0, 7),)))

    def test_through_their_texts(self):
        for web in edge_webs() + knotty_webs() + small_webs()[::9] + great_webs():
            self.same(self.call(web_text, web), oracle.text((web.colours, web.arrows)))
            self.same(self.call(read_web, web_text(web)), web)

    def test_arrows_in_any_order(self):
        for web in knotty_webs():
            for seed in range(3):
                text = oracle.text((web.colours, tuple(mixed(chance(seed), web.arrows))))
                self.same(read_web(text), web)
        self.same(read_web("((0 0) ((1 0 2) (0 1 3)))"), Web((0, 0), ((0, 1, 3), (1, 0, 2))))

    def test_no_web(self):
        for text, at in (
            ("0", None), ("web", None), ("()", None), ("((0 0))", None), ("((0 0) () ())", None), ("(0 ())", None), ("(a ())", None),
            ("((a) ())", None), ("((0 (0)) ())", None), ("((0 0) 0)", None), ("((0 0) a)", None), ("(0 0)", None), ("((0 0) (0))", 0),
            ("((0 0) (()))", 0), ("((0 0) ((0 1)))", 0), ("((0 0) ((0 1 1 1)))", 0), ("((0 0) ((0 0 1)))", 0), ("((0 0) ((0 2 1)))", 0),
            ("((0 0) ((0 1 0)))", 0), ("((0 0) ((0 1 a)))", 0), ("((0 0) ((0 1 1) (0 1 1)))", 1), ("((0 0) ((0 1 1) (1 0 2) (0 1 5)))", 2),
            ("((0 0) ((0 1 1) a (0 1 5)))", 1), ("((0 0 0 0 0 0 0 0 0 0 0 0 0) ())", None), ("((a) (b))", None),
        ):
            self.refused(NoWeb, {"at": at}, read_web, text)

    def test_as_a_web_refuses(self):
        right = ((0, 0, 4), ((0, 1, 5), (1, 2, 1)))
        odd = [0, 1, 2, 3, GREATEST, "a", (), (0,), (0, 1), (1, 0, 3), ((0, 1, 5),)]
        for thing in variants(right, odd):
            if not oracle.is_thing(thing):
                continue
            if type(thing) is not tuple or len(thing) != 2:
                self.refused(NoWeb, {"at": None}, read_web, oracle.text(thing))
                continue
            word, *told = oracle.web_parts(*thing)
            if word == "no":
                self.refused(NoWeb, {"at": told[0]}, read_web, oracle.text(thing))
            else:
                self.same(read_web(oracle.text(thing)), Web(*told))

    def test_texts_that_are_none(self):
        for text, at in (("", 0), ("((0 0) ()", 9), ("((0 0)  ())", 7), ("((0 0) ()) ", 10), ("Web((0,), ())", 0), ("(00)", 2)):
            self.refused(NoText, {"at": at}, read_web, text)


class Papers(Case):
    """Answers, groups and covers through their texts are judged right then."""

    def test_groups_and_covers(self):
        for web in edge_webs()[:14] + knotty_webs() + great_webs()[:6]:
            for row in some_rows(len(web))[:2]:
                group = read(text_of(group_of(web, row)))
                self.same(group, group_of(web, row))
                self.assertIs(right_group(web, row, group), True)
                cover = read(text_of(cover_of(web, row)))
                self.same(least(web, row, cover), least(web, row, cover_of(web, row)))

    def test_answers(self):
        for one, other in unlike_pairs() + [(bare(3), bare(3)), (bare(2), bare(3))]:
            for by in ("early", "search", "forms"):
                told = answer(one, other, by=by)
                self.same(read(text_of(told)), told)
                self.assertIs(right_answer(one, other, read(text_of(told))), True)
            self.same(read(text_of(sought(one, (), other, ()))), sought(one, (), other, ()))

    def test_webs_and_answers_together(self):
        for one, other in unlike_pairs()[:4]:
            told = read_web(web_text(one)), read_web(web_text(other)), read(text_of(answer(one, other)))
            self.assertIs(right_answer(*told), True)


class TheSameEachTime(Case):
    def test_in_another_run(self):
        told = told_elsewhere(
            "from likewebs.texts import *",
            "for web in knotty_webs():",
            "    print(web_text(web), read(web_text(web)), repr(read_web(web_text(web))))",
        )
        self.assertEqual(told[0], told[1])
        self.assertTrue(told[0])


if __name__ == "__main__":
    unittest.main()
