"""The nine deeds of a house, and rows of several of them (points [48], [49] and [52])."""

import itertools
import unittest

from likewebs.changes import painted, with_arrow, with_corner, without_arrow, without_corner
from likewebs.deeds import (
    check_room, done, drop, enter, is_deed_row, leave, paint, put, rename, tie, twin, untie,
)
from likewebs.errors import (
    Full, LikewebsError, NoArrow, NoCorner, NoName, NoNaming, NoNumber, NoWeb, Taken,
)
from likewebs.webs import Web, renamed
from tests import oracle
from tests.common import Case, bare, chain, few_things, picture, ring, some_namings, things, variants

PAIR = Web((0, 5), ((1, 0, 7),))
DEEDS = {
    "put": (put, ("new", PAIR)), "drop": (drop, ("pair",)), "twin": (twin, ("pair", "new")),
    "tie": (tie, ("pair", 0, 1, 4)), "untie": (untie, ("pair", 1, 0)), "enter": (enter, ("pair", 3)),
    "leave": (leave, ("pair", 0)), "paint": (paint, ("pair", 1, 9)), "rename": (rename, ("pair", (1, 0))),
}
FEWEST = {"put": 2, "drop": 1, "twin": 2, "tie": 3, "untie": 3, "enter": 1, "leave": 2, "paint": 3, "rename": 2}
MORE = ("tie", "enter")


def webs():
    return {"pair": PAIR, "ring": ring(3), "none": Web(()), "full": bare(12)}


def names(count):
    return ["".join(signs) for signs in itertools.islice(itertools.product("abcdefghij", repeat=2), count)]


class Granted(Case):
    def deed(self, wanted, told, deed, *handed):
        """Sees what a deed does: the webs behind it, and what it tells."""
        ahead = webs()
        behind, said = self.call(deed, ahead, *handed)
        self.assertIsNot(behind, ahead)
        self.assertEqual(ahead, webs())
        self.assertIs(type(behind), dict)
        self.assertEqual(sorted(behind), sorted(wanted))
        for name in wanted:
            self.same(behind[name], wanted[name])
        self.same(said, told)

    def test_put(self):
        for web in (PAIR, Web(()), bare(12)):
            self.deed({**webs(), "new": web}, None, put, "new", web)

    def test_drop(self):
        for name in webs():
            self.deed({other: web for other, web in webs().items() if other != name}, None, drop, name)

    def test_twin(self):
        for name in webs():
            self.deed({**webs(), "new": webs()[name]}, None, twin, name, "new")

    def test_tie(self):
        self.deed({**webs(), "pair": with_arrow(PAIR, 0, 1, mark=4)}, None, tie, "pair", 0, 1, 4)
        self.deed({**webs(), "pair": with_arrow(PAIR, 0, 1)}, None, tie, "pair", 0, 1)
        # In the place of the one that is there, too.
        self.deed({**webs(), "pair": Web((0, 5), ((1, 0, 1),))}, None, tie, "pair", 1, 0)

    def test_untie(self):
        self.deed({**webs(), "pair": Web((0, 5))}, None, untie, "pair", 1, 0)
        self.deed({**webs(), "ring": chain(3)}, None, untie, "ring", 2, 0)

    def test_enter(self):
        self.deed({**webs(), "pair": Web((0, 5, 3), PAIR.arrows)}, 2, enter, "pair", 3)
        self.deed({**webs(), "pair": Web((0, 5, 0), PAIR.arrows)}, 2, enter, "pair")
        self.deed({**webs(), "none": Web((0,))}, 0, enter, "none")

    def test_leave(self):
        self.deed({**webs(), "pair": Web((5,))}, None, leave, "pair", 0)
        self.deed({**webs(), "ring": chain(2)}, None, leave, "ring", 2)
        self.deed({**webs(), "full": bare(11)}, None, leave, "full", 11)

    def test_paint(self):
        self.deed({**webs(), "pair": Web((0, 9), PAIR.arrows)}, None, paint, "pair", 1, 9)
        # Painted alike.
        self.deed(webs(), None, paint, "pair", 1, 5)

    def test_rename(self):
        self.deed({**webs(), "pair": Web((5, 0), ((0, 1, 7),))}, None, rename, "pair", (1, 0))
        self.deed(webs(), None, rename, "none", ())
        for naming in some_namings(3):
            self.deed({**webs(), "ring": renamed(ring(3), naming)}, None, rename, "ring", naming)

    def test_a_twin_goes_its_own_way(self):
        behind = twin(webs(), "pair", "new")[0]
        behind = enter(behind, "new")[0]
        self.same(behind["pair"], PAIR)
        self.same(behind["new"], with_corner(PAIR))

    def test_each_as_the_change_of_the_web(self):
        for a, b, mark in itertools.product((0, 1, 2), (0, 1, 2), (1, 2, 10 ** 9)):
            if a != b:
                self.deed({**webs(), "ring": with_arrow(ring(3), a, b, mark=mark)}, None, tie, "ring", a, b, mark)
                if ring(3).mark(a, b):
                    self.deed({**webs(), "ring": without_arrow(ring(3), a, b)}, None, untie, "ring", a, b)
        for corner in range(3):
            self.deed({**webs(), "ring": without_corner(ring(3), corner)}, None, leave, "ring", corner)
            self.deed({**webs(), "ring": painted(ring(3), corner, 8)}, None, paint, "ring", corner, 8)


class RefusedDeeds(Case):
    def test_names(self):
        for thing in things() + ["", "Pair", "pairs", "p" * 9, "pai"]:
            for name in [name for name in DEEDS if name != "put"]:
                deed, handed = DEEDS[name]
                self.refused(NoName, {"name": thing}, deed, webs(), thing, *handed[1:])
            if not isinstance(thing, str) or thing not in ("ab", "pairs", "pai"):
                self.refused(NoName, {"name": thing}, put, webs(), thing, PAIR)
                self.refused(NoName, {"name": thing}, twin, webs(), "pair", thing)

    def test_taken(self):
        for name in webs():
            self.refused(Taken, {"name": name}, put, webs(), name, PAIR)
            self.refused(Taken, {"name": name}, twin, webs(), "pair", name)

    def test_names_come_first(self):
        odd = [None, True, -1, "x", [], ()]
        for thing in odd:
            for name in ("tie", "untie", "enter", "leave", "paint", "rename"):
                deed, handed = DEEDS[name]
                self.refused(NoName, {"name": "other"}, deed, webs(), "other", *[thing for _ in handed[1:]])
            self.refused(NoName, {"name": "other"}, twin, webs(), "other", thing)
            self.refused(NoName, {"name": "other"}, twin, webs(), "other", "pair")
            self.refused(Taken, {"name": "pair"}, put, webs(), "pair", thing)
            self.refused(NoName, {"name": "Pair"}, put, webs(), "Pair", thing)

    def test_no_web(self):
        for thing in things():
            if not isinstance(thing, Web):
                self.refused(NoWeb, {"at": None}, put, webs(), "new", thing)

    def test_what_the_changes_refuse(self):
        for thing in things():
            if not oracle.corner(2, thing):
                self.refused(NoCorner, {"corner": thing}, tie, webs(), "pair", thing, thing, thing)
                self.refused(NoCorner, {"corner": thing}, tie, webs(), "pair", 0, thing, thing)
                self.refused(NoCorner, {"corner": thing}, untie, webs(), "pair", thing, thing)
                self.refused(NoCorner, {"corner": thing}, untie, webs(), "pair", 1, thing)
                self.refused(NoCorner, {"corner": thing}, leave, webs(), "pair", thing)
                self.refused(NoCorner, {"corner": thing}, paint, webs(), "pair", thing, thing)
            if not oracle.within(thing, 1, 10 ** 9):
                self.refused(NoNumber, {"number": thing}, tie, webs(), "pair", 0, 1, thing)
            if not oracle.within(thing, 0, 10 ** 9):
                self.refused(NoNumber, {"number": thing}, enter, webs(), "pair", thing)
                self.refused(NoNumber, {"number": thing}, enter, webs(), "full", thing)
                self.refused(NoNumber, {"number": thing}, paint, webs(), "pair", 0, thing)
            if not oracle.is_naming(2, thing):
                self.refused(NoNaming, {}, rename, webs(), "pair", thing)
        self.refused(NoCorner, {"corner": 1}, tie, webs(), "pair", 1, 1, 1)
        self.refused(NoCorner, {"corner": 1}, untie, webs(), "pair", 1, 1)
        self.refused(NoArrow, {"a": 0, "b": 1}, untie, webs(), "pair", 0, 1)
        self.refused(Full, {}, enter, webs(), "full")
        self.refused(NoNaming, {}, rename, webs(), "pair", [1, 0])

    def test_a_forty_first_web(self):
        many = {name: bare(1) for name in names(40)}
        self.refused(Full, {}, put, many, "new", PAIR)
        self.refused(Full, {}, twin, many, "aa", "new")
        self.refused(Full, {}, check_room, many)
        # It comes behind all else.
        self.refused(Taken, {"name": "aa"}, put, many, "aa", PAIR)
        self.refused(NoName, {"name": "Aa"}, put, many, "Aa", PAIR)
        self.refused(NoWeb, {"at": None}, put, many, "new", None)
        self.refused(NoName, {"name": "new"}, twin, many, "new", "newer")
        self.refused(NoName, {"name": 5}, twin, many, "aa", 5)
        self.refused(Taken, {"name": "ab"}, twin, many, "aa", "ab")
        # All else is as ever, and with one web fewer there is room.
        self.same(enter(many, "aa", 3)[0]["aa"], Web((0, 3)))
        fewer = drop(many, "ba")[0]
        self.assertEqual(len(fewer), 39)
        self.assertIs(check_room(fewer), None)
        self.assertEqual(len(put(fewer, "new", PAIR)[0]), 40)
        self.assertEqual(len(twin(fewer, "aa", "new")[0]), 40)

    def test_nothing_is_changed(self):
        for name, (deed, handed) in DEEDS.items():
            for at in range(len(handed)):
                for thing in few_things():
                    ahead = webs()
                    try:
                        self.call(deed, ahead, *handed[:at], thing, *handed[at + 1:])
                    except LikewebsError:
                        pass
                    self.assertEqual(picture(ahead), picture(webs()))


class DeedRows(Case):
    def wanted(self, thing):
        if type(thing) is not tuple or not thing or type(thing[0]) is not str or thing[0] not in FEWEST:
            return False
        more = 1 if thing[0] in MORE else 0
        return len(thing) - 1 in (FEWEST[thing[0]], FEWEST[thing[0]] + more)

    def test_how_many_things(self):
        for word in FEWEST:
            for many in range(8):
                thing = (word,) + (None,) * many
                self.assertIs(is_deed_row(thing), self.wanted(thing))
                self.assertIs(is_deed_row(list(thing)), False)
        for many in range(1000, 998, -1):
            self.assertIs(is_deed_row(("put",) * many), False)

    def test_words(self):
        for word in ("", "Put", "put ", "puts", "back", "again", "several", "all", "visit", "names", "web", 0, None,
                     True, ("put",), ["put"], b"put", {"put": 1}, {}, bare(1)):
            for many in range(5):
                self.assertIs(is_deed_row((word,) + ("pair",) * many), False)

    def test_anything(self):
        for thing in things():
            self.assertIs(self.call(is_deed_row, thing), False)
        for word, (_, handed) in DEEDS.items():
            for thing in variants((word,) + handed, few_things() + list(FEWEST)):
                self.assertIs(self.call(is_deed_row, thing), self.wanted(thing))

    def test_done_as_by_itself(self):
        for word, (deed, handed) in DEEDS.items():
            row = (word,) + handed
            self.assertIs(is_deed_row(row), True)
            self.assertEqual(self.call(done, webs(), row), deed(webs(), *handed))
        for word in MORE:
            deed, handed = DEEDS[word]
            self.assertIs(is_deed_row((word,) + handed[:-1]), True)
            self.assertEqual(done(webs(), (word,) + handed[:-1]), deed(webs(), *handed[:-1]))

    def test_refused_as_by_itself(self):
        for row, kind, fields in (
            (("put", "pair", PAIR), Taken, {"name": "pair"}), (("put", "new", None), NoWeb, {"at": None}),
            (("drop", 7), NoName, {"name": 7}), (("twin", "pair", "ring"), Taken, {"name": "ring"}),
            (("tie", "pair", 0, 0), NoCorner, {"corner": 0}), (("tie", "pair", 0, 1, 0), NoNumber, {"number": 0}),
            (("untie", "pair", 0, 1), NoArrow, {"a": 0, "b": 1}), (("enter", "full"), Full, {}),
            (("enter", "pair", True), NoNumber, {"number": True}), (("leave", "pair", 2), NoCorner, {"corner": 2}),
            (("paint", "pair", 0, -1), NoNumber, {"number": -1}), (("rename", "pair", (0,)), NoNaming, {}),
        ):
            self.refused(kind, fields, done, webs(), row)


if __name__ == "__main__":
    unittest.main()
