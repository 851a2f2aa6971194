"""A house of webs: its deeds, what can be taken back, several in one, visits, the diary (points [48] to [53])."""

import itertools
import unittest

from likewebs.changes import painted, with_arrow, with_corner, without_arrow, without_corner
from likewebs.errors import (
    Busy, Full, LikewebsError, NoArrow, NoCorner, NoDeed, NoName, NoNaming, NoNumber, NoWeb, Refused, Taken,
)
from likewebs.forms import form, form_naming
from likewebs.house import House
from likewebs.webs import Web, renamed
from tests import oracle
from tests.common import (
    HEXAGON, TRIANGLES, Case, all_webs, bare, few_things, great_webs, in_time, knotty_webs, picture, ring, some_namings,
    things, told_elsewhere, unlike_pairs, variants,
)
from tests.model import by_row, is_deed_row, outcome

PAIR = Web((0, 5), ((1, 0, 7),))
WEBS = {"pair": PAIR, "ring": ring(3), "none": Web(()), "full": bare(12)}
# A row that is granted for each deed.
ROWS = (
    ("put", "new", PAIR), ("drop", "pair"), ("twin", "pair", "new"), ("tie", "pair", 0, 1, 4), ("untie", "pair", 1, 0),
    ("enter", "pair", 3), ("leave", "pair", 0), ("paint", "pair", 1, 9), ("rename", "pair", (1, 0)),
)
# Rows that are refused.
WRONG = (
    ("put", "pair", PAIR), ("put", "Pair", PAIR), ("put", "new", None), ("drop", "other"), ("twin", "other", "new"),
    ("twin", "pair", "ring"), ("tie", "pair", 0, 0, 1), ("tie", "pair", 0, 1, 0), ("untie", "pair", 0, 1),
    ("enter", "full", 0), ("enter", "pair", True), ("leave", "pair", 2), ("paint", "pair", 0, -1),
    ("rename", "pair", (0, 0)),
)
NAMES = ["".join(signs) for signs in itertools.product("abcdefghij", repeat=2)]


def house_with(webs=WEBS):
    house = House()
    for name in webs:
        house.put(name, webs[name])
    return house


def webs_of(house):
    return {name: house.web(name) for name in house.names()}


def all_told(house):
    """All that a house tells of its webs."""
    names = house.names()
    told = [[house.web(name), house.form(name), house.naming(name), house.twists(name), house.alike(name),
             house.find(house.web(name))] for name in names]
    return picture([names, told, house.classes()])


def can_go(house):
    """How many deeds can be taken back, and how many done anew; the house is as ahead behind it."""
    backs = agains = 0
    while outcome(house.again) == ("yes", None):
        agains += 1
    while outcome(house.back) == ("yes", None):
        backs += 1
    for _ in range(backs - agains):
        house.again()
    return backs - agains, agains


class Houses(Case):
    def holds(self, house, webs):
        """Sees that a house has just these webs."""
        self.same(house.names(), sorted(webs))
        for name in webs:
            self.same(house.web(name), webs[name])

    def unmoved(self, house, deed):
        """Sees that something leaves the webs, and what can be taken back or done anew."""
        ahead = picture(webs_of(house)), can_go(house)
        told = deed()
        self.assertEqual((picture(webs_of(house)), can_go(house)), ahead)
        return told


class Granted(Houses):
    def deed(self, wanted, told, word, *handed, **named):
        house = house_with()
        self.same(self.call(getattr(house, word), *handed, **named), told)
        self.holds(house, wanted)
        self.same(house.diary()[-2:], [("in", word), ("out", word, True)])
        # It can be taken back and done anew.
        self.assertIs(house.back(), None)
        self.holds(house, WEBS)
        self.assertIs(house.again(), None)
        self.holds(house, wanted)

    def test_an_empty_house(self):
        house = House()
        self.holds(house, {})
        self.same(house.classes(), [])
        self.same(house.diary(), [])
        self.same(house.find(PAIR), [])
        self.assertIs(house.busy(), False)

    def test_put(self):
        for web in (PAIR, Web(()), bare(12)):
            self.deed({**WEBS, "new": web}, None, "put", "new", web)
        for name in ("a", "abcdefgh", "zzzzzzzz"):
            self.deed({**WEBS, name: PAIR}, None, "put", name, PAIR)

    def test_drop(self):
        for name in WEBS:
            self.deed({other: WEBS[other] for other in WEBS if other != name}, None, "drop", name)

    def test_twin(self):
        for name in WEBS:
            self.deed({**WEBS, "new": WEBS[name]}, None, "twin", name, "new")

    def test_tie(self):
        self.deed({**WEBS, "pair": with_arrow(PAIR, 0, 1)}, None, "tie", "pair", 0, 1)
        self.deed({**WEBS, "pair": with_arrow(PAIR, 0, 1, mark=4)}, None, "tie", "pair", 0, 1, mark=4)
        self.deed({**WEBS, "pair": Web((0, 5), ((1, 0, 10 ** 9),))}, None, "tie", "pair", 1, 0, mark=10 ** 9)

    def test_untie(self):
        self.deed({**WEBS, "pair": Web((0, 5))}, None, "untie", "pair", 1, 0)
        self.deed({**WEBS, "ring": without_arrow(ring(3), 1, 2)}, None, "untie", "ring", 1, 2)

    def test_enter(self):
        self.deed({**WEBS, "pair": with_corner(PAIR)}, 2, "enter", "pair")
        self.deed({**WEBS, "pair": with_corner(PAIR, colour=10 ** 9)}, 2, "enter", "pair", colour=10 ** 9)
        self.deed({**WEBS, "none": Web((0,))}, 0, "enter", "none")

    def test_leave(self):
        for corner in range(3):
            self.deed({**WEBS, "ring": without_corner(ring(3), corner)}, None, "leave", "ring", corner)
        self.deed({**WEBS, "full": bare(11)}, None, "leave", "full", 11)

    def test_paint(self):
        self.deed({**WEBS, "pair": painted(PAIR, 1, 9)}, None, "paint", "pair", 1, 9)
        # One that changes nothing is a deed, too.
        self.deed(WEBS, None, "paint", "pair", 1, 5)

    def test_rename(self):
        for naming in some_namings(3):
            self.deed({**WEBS, "ring": renamed(ring(3), naming)}, None, "rename", "ring", naming)
        self.deed(WEBS, None, "rename", "none", ())

    def test_a_web_may_be_put_by_several_names(self):
        house = house_with({"a": PAIR, "b": PAIR})
        house.enter("a")
        self.holds(house, {"a": with_corner(PAIR), "b": PAIR})
        house.twin("b", "c")
        house.leave("c", 0)
        self.holds(house, {"a": with_corner(PAIR), "b": PAIR, "c": Web((5,))})
        self.same(PAIR, Web((0, 5), ((1, 0, 7),)))

    def test_a_name_that_was_dropped_is_new(self):
        house = house_with()
        house.drop("pair")
        house.put("pair", ring(4))
        self.same(house.web("pair"), ring(4))
        house.back()
        house.back()
        self.same(house.web("pair"), PAIR)

    def test_forty_webs(self):
        house = house_with({name: bare(1) for name in NAMES[:40]})
        self.same(house.names(), NAMES[:40])
        self.same(house.classes(), [NAMES[:40]])


class RefusedDeeds(Houses):
    def no(self, kind, fields, word, *handed, **named):
        """Sees a deed refused; nothing is changed by it but the diary."""
        house = house_with()
        house.enter("ring")
        house.drop("ring")
        house.back()
        ahead = webs_of(house)
        self.refused(kind, fields, getattr(house, word), *handed, **named)
        self.holds(house, ahead)
        self.same(house.diary()[-2:], [("in", word), ("out", word, False)])
        self.assertIs(house.again(), None)
        self.holds(house, {name: ahead[name] for name in ahead if name != "ring"})
        house.back()
        house.back()
        self.holds(house, WEBS)

    def test_names(self):
        for thing in things() + ["", "Pair", "pairs", "p" * 9, "pai", "pair ", "pair\n"]:
            for word, name, *handed in ROWS[1:]:
                if word not in ("tie", "enter"):
                    self.no(NoName, {"name": thing}, word, thing, *handed)
            self.no(NoName, {"name": thing}, "tie", thing, 0, 1)
            self.no(NoName, {"name": thing}, "tie", thing, 0, 1, mark=thing)
            self.no(NoName, {"name": thing}, "enter", thing)
            self.no(NoName, {"name": thing}, "enter", thing, colour=thing)
            if type(thing) is not str or thing not in ("ab", "pairs", "pai"):
                self.no(NoName, {"name": thing}, "put", thing, PAIR)
                self.no(NoName, {"name": thing}, "put", thing, thing)
                self.no(NoName, {"name": thing}, "twin", "pair", thing)

    def test_what_only_tells(self):
        house = house_with()
        for thing in things() + ["", "Pair", "pairs", "p" * 9, "pai"]:
            for word in ("web", "form", "naming", "twists", "alike"):
                self.refused(NoName, {"name": thing}, getattr(house, word), thing)
        self.same(len(house.diary()), 8)

    def test_taken(self):
        for name in WEBS:
            self.no(Taken, {"name": name}, "put", name, PAIR)
            self.no(Taken, {"name": name}, "put", name, None)
            self.no(Taken, {"name": name}, "twin", "pair", name)

    def test_no_web(self):
        for thing in things():
            if not isinstance(thing, Web):
                self.no(NoWeb, {"at": None}, "put", "new", thing)

    def test_corners_and_numbers(self):
        for thing in things():
            if not oracle.corner(2, thing):
                for word in ("tie", "untie"):
                    self.no(NoCorner, {"corner": thing}, word, "pair", thing, 1)
                    self.no(NoCorner, {"corner": thing}, word, "pair", thing, thing)
                    self.no(NoCorner, {"corner": thing}, word, "pair", 0, thing)
                self.no(NoCorner, {"corner": thing}, "tie", "pair", thing, thing, mark=thing)
                self.no(NoCorner, {"corner": thing}, "tie", "pair", 1, thing, mark=thing)
                self.no(NoCorner, {"corner": thing}, "leave", "pair", thing)
                self.no(NoCorner, {"corner": thing}, "paint", "pair", thing, thing)
            if not oracle.within(thing, 1, 10 ** 9):
                self.no(NoNumber, {"number": thing}, "tie", "pair", 0, 1, mark=thing)
            if not oracle.within(thing, 0, 10 ** 9):
                self.no(NoNumber, {"number": thing}, "enter", "pair", colour=thing)
                self.no(NoNumber, {"number": thing}, "enter", "full", colour=thing)
                self.no(NoNumber, {"number": thing}, "paint", "pair", 0, thing)
            if not oracle.is_naming(2, thing):
                self.no(NoNaming, {}, "rename", "pair", thing)
        self.no(NoCorner, {"corner": 1}, "tie", "pair", 1, 1)
        self.no(NoCorner, {"corner": 0}, "untie", "pair", 0, 0)
        self.no(NoArrow, {"a": 0, "b": 1}, "untie", "pair", 0, 1)
        self.no(Full, {}, "enter", "full")

    def test_the_one_farthest_to_the_left(self):
        self.no(NoName, {"name": 5}, "tie", 5, 9, 9, mark=0)
        self.no(NoCorner, {"corner": 9}, "tie", "pair", 9, 8, mark=0)
        self.no(NoCorner, {"corner": 8}, "tie", "pair", 0, 8, mark=0)
        self.no(NoNumber, {"number": 0}, "tie", "pair", 0, 1, mark=0)
        self.no(NoCorner, {"corner": 8}, "untie", "pair", 0, 8)
        self.no(NoCorner, {"corner": 7}, "paint", "pair", 7, -1)
        self.no(NoName, {"name": "x"}, "twin", "x", "X")
        self.no(NoName, {"name": "x"}, "twin", "x", "pair")
        self.no(NoName, {"name": "X"}, "twin", "pair", "X")
        self.no(NoName, {"name": "X"}, "put", "X", 5)
        self.no(NoName, {"name": "x"}, "rename", "x", 5)
        self.no(NoName, {"name": "x"}, "enter", "x", colour=-1)

    def test_the_forty_first_web(self):
        house = house_with({name: bare(1) for name in NAMES[:40]})
        for _ in range(2):
            self.refused(Full, {}, house.put, "new", PAIR)
            self.refused(Full, {}, house.twin, "aa", "new")
            # Behind all else.
            self.refused(Taken, {"name": "aa"}, house.put, "aa", PAIR)
            self.refused(NoName, {"name": ""}, house.put, "", PAIR)
            self.refused(NoWeb, {"at": None}, house.put, "new", [])
            self.refused(NoName, {"name": "new"}, house.twin, "new", "newer")
            self.refused(NoName, {"name": "N"}, house.twin, "aa", "N")
            self.refused(Taken, {"name": "ab"}, house.twin, "aa", "ab")
            self.refused(Refused, {"at": 0}, house.several, [("put", "new", PAIR)])
            self.refused(Refused, {"at": 1}, house.several, [("enter", "aa"), ("twin", "aa", "new")])
            self.holds(house, {name: bare(1) for name in NAMES[:40]})
            house.several([("drop", "aa"), ("put", "aa", bare(1))])
        house.drop("ab")
        house.put("new", PAIR)
        self.refused(Full, {}, house.put, "ab", PAIR)
        house.back()
        house.twin("aa", "new")
        self.refused(Full, {}, house.twin, "aa", "ab")
        self.same(house.enter("aa"), 1)


class BackAndAgain(Houses):
    def test_none(self):
        house = House()
        for _ in range(2):
            self.refused(NoDeed, {}, house.back)
            self.refused(NoDeed, {}, house.again)
        self.same(house.diary(), [("in", "back"), ("out", "back", False), ("in", "again"), ("out", "again", False)] * 2)

    def test_one_after_the_other(self):
        house = House()
        stood = [webs_of(house)]
        for row in (("put", "pair", PAIR),) + ROWS[2:4] + ROWS[5:] + (("drop", "new"),):
            by_row(house, row)
            stood.append(webs_of(house))
        for webs in stood[-2::-1]:
            self.assertIs(house.back(), None)
            self.holds(house, webs)
        self.refused(NoDeed, {}, house.back)
        for webs in stood[1:]:
            self.assertIs(house.again(), None)
            self.holds(house, webs)
        self.refused(NoDeed, {}, house.again)
        self.holds(house, stood[-1])

    def test_through_more_than_twenty(self):
        for many in (19, 20, 21, 25, 45):
            house = House()
            house.put("a", Web(()))
            for colour in range(1, many):
                if colour % 13 == 0:
                    house.leave("a", 0)
                else:
                    house.several([("enter", "a", colour)] if len(house.web("a")) < 12 else [("paint", "a", 0, colour)])
            kept = min(20, many)
            last = webs_of(house)
            for _ in range(kept):
                house.back()
            self.refused(NoDeed, {}, house.back)
            self.assertEqual(house.names(), [] if many <= 20 else ["a"])
            for _ in range(kept):
                house.again()
            self.refused(NoDeed, {}, house.again)
            self.holds(house, last)
            # What again did anew can be taken back again, and counts among the twenty.
            self.same(can_go(house), (kept, 0))
            house.paint("a", 0, 99)
            self.same(can_go(house), (min(20, kept + 1), 0))

    def test_the_eldest_is_gone_for_good(self):
        house = house_with({name: bare(1) for name in NAMES[:21]})
        for _ in range(20):
            house.back()
        self.refused(NoDeed, {}, house.back)
        self.holds(house, {"aa": bare(1)})
        house.drop("aa")
        self.same(can_go(house), (1, 0))
        house.back()
        self.refused(NoDeed, {}, house.back)

    def test_behind_a_new_deed(self):
        house = house_with()
        house.drop("pair")
        house.drop("ring")
        house.back()
        house.back()
        self.same(can_go(house), (4, 2))
        house.paint("ring", 0, 0)
        self.refused(NoDeed, {}, house.again)
        self.same(can_go(house), (5, 0))
        house.back()
        house.again()
        self.refused(NoDeed, {}, house.again)
        house.back()
        # None at all is one, too.
        self.same(house.several([]), [])
        self.refused(NoDeed, {}, house.again)
        self.same(can_go(house), (5, 0))

    def test_behind_what_is_refused_and_what_only_tells(self):
        house = house_with()
        house.enter("pair")
        house.enter("ring")
        house.back()
        for row in WRONG:
            if row[:2] != ("leave", "pair"):
                self.unmoved(house, lambda: self.assertRaises(LikewebsError, by_row, house, row))
        self.unmoved(house, lambda: self.refused(Refused, {"at": 0}, house.several, [None]))
        self.unmoved(house, lambda: self.refused(Refused, {"at": 1}, house.several, [("drop", "pair"), ("drop", "pair")]))
        self.unmoved(house, lambda: house.visit(lambda name, web: 1))
        self.unmoved(house, lambda: all_told(house_with()))
        self.unmoved(house, lambda: (house.names(), house.classes(), house.find(PAIR), house.busy(), house.diary()))
        self.unmoved(house, lambda: [house.alike(name) for name in house.names()])
        self.same(can_go(house), (5, 1))
        house.again()
        self.refused(NoDeed, {}, house.again)
        self.refused(NoDeed, {}, house.again)
        self.same(can_go(house), (6, 0))

    def test_a_deed_that_changes_nothing(self):
        house = house_with()
        house.paint("pair", 0, 0)
        house.rename("full", tuple(range(12)))
        house.tie("pair", 1, 0, mark=7)
        self.same(can_go(house), (7, 0))
        self.holds(house, WEBS)

    def test_what_a_deed_told_is_told_once(self):
        house = house_with()
        self.same(house.enter("pair"), 2)
        self.same(house.back(), None)
        self.same(house.again(), None)
        self.same(house.enter("pair"), 3)

    def test_several_is_one_deed(self):
        house = house_with()
        house.several([("drop", "pair"), ("enter", "ring"), ("twin", "ring", "new")])
        behind = webs_of(house)
        house.back()
        self.holds(house, WEBS)
        house.again()
        self.holds(house, behind)
        self.same(can_go(house), (5, 0))


class Several(Houses):
    def test_ordinary(self):
        house = house_with()
        told = self.call(house.several, [("enter", "pair"), ("enter", "pair", 6), ("tie", "pair", 2, 3), ("drop", "ring"),
                                         ("tie", "pair", 3, 2, 8), ("put", "new", ring(3)), ("enter", "none")])
        self.same(told, [2, 3, None, None, None, None, 0])
        self.holds(house, {"pair": Web((0, 5, 0, 6), ((1, 0, 7), (2, 3, 1), (3, 2, 8))), "none": Web((0,)),
                           "full": bare(12), "new": ring(3)})

    def test_each_by_itself(self):
        for row in ROWS:
            one, other = house_with(), house_with()
            self.same(one.several([row]), [by_row(other, row)])
            self.same(webs_of(one), webs_of(other))
            word = row[0]
            self.same(one.diary()[-4:], [("in", "all"), ("in", word), ("out", word, True), ("out", "all", True)])

    def test_none(self):
        house = house_with()
        self.same(self.call(house.several, []), [])
        self.holds(house, WEBS)
        self.same(house.diary()[-2:], [("in", "all"), ("out", "all", True)])
        self.same(can_go(house), (5, 0))
        empty = House()
        self.same(empty.several([]), [])
        self.same(empty.back(), None)

    def test_a_row_refused_in_each_place(self):
        right = [("enter", "pair", 1), ("drop", "ring"), ("put", "new", PAIR), ("rename", "new", (1, 0))]
        for wrong in WRONG + (("drop", "ring", ), ("enter", "ring")):
            for at in range(len(right) + 1):
                rows = right[:at] + [wrong] + right[at:]
                house = house_with()
                first = next((k for k, _ in enumerate(rows) if self.fails(rows[:k + 1])), None)
                if first is None:
                    continue
                house.drop("none")
                house.back()
                self.unmoved(house, lambda: self.refused(Refused, {"at": first}, house.several, rows))
                self.holds(house, WEBS)
                self.same(can_go(house), (4, 1))

    def fails(self, rows):
        house = house_with()
        return any(outcome(by_row, house, row)[0] == "no" for row in rows)

    def test_a_row_that_is_no_such_tuple_in_each_place(self):
        right = [("enter", "pair", 1), ("drop", "ring"), ("put", "new", PAIR)]
        odd = things() + [("put",), ("put", "new"), ("put", "new", PAIR, ()), ("drop",), ("drop", "pair", 0), ("twin", "pair"),
                          ("tie", "pair", 0), ("tie", "pair", 0, 1, 2, 3), ("untie", "pair", 1), ("untie", "pair", 1, 0, 7),
                          ("enter",), ("enter", "pair", 1, 2), ("leave", "pair"), ("leave", "pair", 0, 0), ("paint", "pair", 0),
                          ("paint", "pair", 0, 1, 2), ("rename", "pair"), ("rename", "pair", (1, 0), 0), ("back",), ("again",),
                          ("all",), ("several", []), ("visit", len), ("names",), ("Put", "new", PAIR), ["drop", "pair"],
                          ("twin", "pair", "new", "newer"), [("drop", "pair")], (("drop", "pair"),), ("drop ", "pair")]
        for thing in odd:
            self.assertFalse(is_deed_row(thing))
            for at in range(len(right) + 1):
                house = house_with()
                self.refused(Refused, {"at": at}, house.several, right[:at] + [thing] + right[at:])
                self.holds(house, WEBS)
                rows = [row for word in ("enter", "drop", "put")[:at] for row in (("in", word), ("out", word, True))]
                self.same(house.diary()[8:], [("in", "all")] + rows + [("out", "all", False)])

    def test_rows_bent_at_every_place(self):
        for right in ROWS:
            for row in variants(right, few_things() + ["drop", "put", "new"]):
                house, other = house_with(), house_with()
                told = outcome(house.several, [row])
                wanted = outcome(by_row, other, row) if is_deed_row(row) else ("no",)
                if wanted[0] == "yes":
                    self.same(told, ("yes", [wanted[1]]))
                else:
                    self.same(told, ("no", "Refused", 0))
                self.same(webs_of(house), webs_of(other))

    def test_each_is_granted_or_refused_as_by_itself_then(self):
        house = house_with()
        self.refused(Refused, {"at": 1}, house.several, [("drop", "pair"), ("enter", "pair")])
        self.refused(Refused, {"at": 2}, house.several, [("leave", "pair", 1), ("leave", "pair", 0), ("leave", "pair", 0)])
        self.same(house.several([("put", "a", bare(1)), ("twin", "a", "b"), ("drop", "a"), ("put", "a", ring(3))]), [None] * 4)
        self.same(house.web("b"), bare(1))

    def test_the_list_is_left_as_it_was(self):
        house = house_with()
        rows = [("enter", "pair"), ("rename", "pair", (2, 0, 1))]
        self.call(house.several, rows)
        rows.append(("drop", "pair"))
        house.back()
        house.again()
        self.same(house.web("pair"), renamed(with_corner(PAIR), (2, 0, 1)))


class Visits(Houses):
    def test_ordinary(self):
        house = house_with()
        self.same(house.visit(lambda name, web: (name, len(web))), [("full", 12), ("none", 0), ("pair", 2), ("ring", 3)])
        met = []
        self.same(house.visit(lambda name, web: met.append((name, web))), [None] * 4)
        self.same(met, [(name, WEBS[name]) for name in sorted(WEBS)])
        self.same(house.diary()[-4:], [("in", "visit"), ("out", "visit", True)] * 2)
        self.same(House().visit(lambda name, web: 1), [])
        self.assertIs(house.busy(), False)
        self.same(can_go(house), (4, 0))

    def test_what_the_function_raises(self):
        for kind, fields in ((NoDeed, ()), (LikewebsError, ()), (NoName, ("x",)), (Busy, ()), (Refused, (3,)), (NoWeb, (None,))):
            for last in ("full", "pair", "ring"):
                house, met = house_with(), []

                def visitor(name, web):
                    met.append(name)
                    if name == last:
                        raise kind(*fields)

                house.drop("none")
                house.back()
                with self.assertRaises(kind) as caught:
                    house.visit(visitor)
                self.assertEqual(tuple(vars(caught.exception).values()), fields)
                self.assertEqual(met, [name for name in sorted(WEBS) if name <= last])
                self.assertIs(house.busy(), False)
                self.same(house.diary()[-2:], [("in", "visit"), ("out", "visit", False)])
                self.holds(house, WEBS)
                self.same(can_go(house), (4, 1))
                house.drop("pair")

    def test_another_error(self):
        # Not promised, but the house is open behind it.
        house = house_with()
        with self.assertRaises(KeyError):
            house.visit(lambda name, web: {}[name])
        self.assertIs(house.busy(), False)
        self.assertIs(house.drop("pair"), None)

    def test_each_deed_is_refused_with_busy_ahead_of_all_else(self):
        house = house_with({"pair": PAIR})
        house.enter("pair")
        house.back()
        tried = [(lambda row=row: by_row(house, row), row[0]) for row in ROWS + WRONG]
        tried += [(lambda: house.put(None, None), "put"), (lambda: house.drop([]), "drop"), (house.back, "back")]
        tried += [(house.again, "again"), (lambda: house.several([]), "all"), (lambda: house.several([None]), "all")]
        tried += [(lambda: house.several([("drop", "pair")]), "all"), (lambda: house.visit(None), "visit")]
        tried += [(lambda: house.visit(lambda name, web: 1), "visit")]
        for deed, word in tried:
            def visitor(name, web):
                self.refused(Busy, {}, deed)
                self.assertIs(house.busy(), True)
                self.refused(Busy, {}, deed)
                return "told"

            self.same(house.visit(visitor), ["told"])
            within = [("in", word), ("out", word, False)] * 2
            self.same(house.diary()[-6:], [("in", "visit")] + within + [("out", "visit", True)])
            self.assertIs(house.busy(), False)
            self.holds(house, {"pair": PAIR})
            self.same(can_go(house), (1, 1))

            # What is raised goes on where it isn't caught.
            self.refused(Busy, {}, house.visit, lambda name, web: deed())
            self.assertIs(house.busy(), False)
            self.same(house.diary()[-2:], [("out", word, False), ("out", "visit", False)])
            self.same(can_go(house), (1, 1))

    def test_what_only_tells_is_told_as_ever(self):
        house = house_with()
        wanted = all_told(house)

        def visitor(name, web):
            self.assertEqual(all_told(house), wanted)
            self.same(house.web(name), web)
            self.assertIs(house.busy(), True)
            self.refused(NoName, {"name": "other"}, house.web, "other")
            self.same(house.diary()[-1], ("in", "visit"))
            return house.names()

        self.same(house.visit(visitor), [sorted(WEBS)] * 4)
        self.assertEqual(all_told(house), wanted)

    def test_another_house_is_open(self):
        one, other = house_with(), house_with({"pair": PAIR})

        def visitor(name, web):
            self.assertIs(other.busy(), False)
            other.enter("pair")
            return other.visit(lambda name, web: (one.busy(), other.busy(), len(web)))[0]

        self.same(one.visit(visitor), [(True, True, 3), (True, True, 4), (True, True, 5), (True, True, 6)])
        self.assertIs(other.busy(), False)
        self.holds(one, WEBS)

    def test_what_is_told_is_a_new_list(self):
        house = house_with()
        self.told_anew(house.visit, lambda name, web: [name])


class Diary(Houses):
    def test_the_last_thirty_rows(self):
        house = House()
        rows = []
        for at in range(20):
            self.same(house.diary(), rows[-30:])
            house.put(NAMES[at], bare(1))
            rows += [("in", "put"), ("out", "put", True)]
        self.same(house.diary(), rows[-30:])
        house.several([("enter", name) for name in NAMES[:20]])
        rows += [("in", "all")] + [("in", "enter"), ("out", "enter", True)] * 20 + [("out", "all", True)]
        self.same(house.diary(), rows[-30:])
        self.refused(NoDeed, {}, house.again)
        rows += [("in", "again"), ("out", "again", False)]
        self.same(house.diary(), rows[-30:])

        def visitor(name, web):
            self.same(house.diary(), rows[-30:])
            self.refused(Busy, {}, house.drop, name)
            rows.extend([("in", "drop"), ("out", "drop", False)])
            self.same(house.diary(), rows[-30:])

        rows.append(("in", "visit"))
        house.visit(visitor)
        rows.append(("out", "visit", True))
        self.same(house.diary(), rows[-30:])
        self.same(len(house.diary()), 30)

    def test_each_row(self):
        for row in ROWS + WRONG:
            house = house_with()
            done = outcome(by_row, house, row)[0] == "yes"
            self.assertIs(done, row in ROWS)
            self.same(house.diary()[8:], [("in", row[0]), ("out", row[0], done)])
            house = house_with()
            outcome(house.several, [("enter", "ring"), row, ("leave", "ring", 0)])
            within = [("in", "enter"), ("out", "enter", True), ("in", row[0]), ("out", row[0], done)]
            within += [("in", "leave"), ("out", "leave", True)] if done else []
            self.same(house.diary()[8:], [("in", "all")] + within + [("out", "all", done)])

    def test_no_rows_of_what_only_tells(self):
        house = house_with()
        ahead = house.diary()
        all_told(house)
        house.busy()
        house.find(ring(7))
        outcome(house.web, "other")
        self.same(house.diary(), ahead)

    def test_two_houses_have_two_diaries(self):
        one, other = house_with(), house_with()
        one.drop("pair")
        self.same(other.diary(), house_with().diary())
        self.same(one.diary()[:8], other.diary())


class Telling(Houses):
    def look(self, house):
        """Sees all that is told of the webs, compared with forms and with trying all orders of the corners."""
        webs = webs_of(house)
        forms = {name: form(webs[name]) for name in webs}
        for name, web in webs.items():
            self.same(self.call(house.form, name), forms[name])
            self.same(self.call(house.naming, name), form_naming(web))
            self.assertEqual(oracle.renamed_parts(web, house.naming(name)), (forms[name].colours, forms[name].arrows))
            alike = [other for other in sorted(webs) if forms[other] == forms[name]]
            if len(web) < 9:
                self.same(self.call(house.twists, name), len(oracle.twists(web, ())))
                self.assertEqual(alike, [other for other in sorted(webs) if oracle.namings(web, (), webs[other], ())])
            self.same(self.call(house.alike, name), alike)
            self.same(self.call(house.find, web), alike)
        classes = []
        for name in sorted(webs):
            if name not in [other for row in classes for other in row]:
                classes.append(house.alike(name))
        self.same(house.classes(), classes)

    def test_ordinary(self):
        house = house_with({"c": ring(3), "b": renamed(PAIR, (1, 0)), "a": Web(()), "e": PAIR, "d": Web((5, 0))})
        self.same(house.names(), ["a", "b", "c", "d", "e"])
        self.same(house.alike("b"), ["b", "e"])
        self.same(house.alike("e"), ["b", "e"])
        self.same(house.alike("d"), ["d"])
        self.same(house.find(PAIR), ["b", "e"])
        self.same(house.find(Web((0, 5))), ["d"])
        self.same(house.find(ring(4)), [])
        self.same(house.find(Web(())), ["a"])
        self.same(house.classes(), [["a"], ["b", "e"], ["c"], ["d"]])
        self.same([house.twists(name) for name in "abcde"], [1, 1, 3, 1, 1])
        self.same(house.form("d"), Web((0, 5)))
        self.same(house.naming("d"), (1, 0))
        self.look(house)

    def test_webs_that_only_a_search_parts(self):
        for at, (one, other) in enumerate(unlike_pairs()):
            naming = some_namings(len(one))[2]
            house = house_with({"a": one, "b": other, "c": renamed(other, naming), "d": renamed(one, naming)})
            self.same(house.classes(), [["a", "d"], ["b", "c"]])
            self.same(house.find(renamed(one, naming[::-1])), ["a", "d"])
            if at % 3 == 0:
                self.look(house)

    def test_few_corners(self):
        webs = list(all_webs(2, 1, 2)) + list(all_webs(3, 1, 1))[::3]
        for first in range(0, len(webs), 38):
            self.look(house_with(dict(zip(NAMES, webs[first:first + 38]))))

    def test_knotty_webs(self):
        webs = [renamed(web, naming) for web in knotty_webs() for naming in some_namings(len(web))[:2]]
        self.look(house_with(dict(zip(NAMES, webs))))

    def test_great_webs_in_a_few_seconds(self):
        webs = [renamed(web, naming) for web in great_webs() for naming in (some_namings(12)[0], some_namings(12)[4])]
        house = house_with(dict(zip(NAMES, webs)))
        self.same(in_time(self, house.classes), [[NAMES[at], NAMES[at + 1]] for at in range(0, len(webs), 2)])
        self.same(in_time(self, house.twists, "aa"), 479001600)
        self.same(in_time(self, house.alike, "ae"), ["ae", "af"])
        self.same(in_time(self, house.find, renamed(ring(12), some_namings(12)[3])), ["ae", "af"])

    def test_as_told_anew_behind_each_deed(self):
        house = house_with({"a": TRIANGLES, "b": HEXAGON, "c": ring(6)})
        self.same(house.classes(), [["a"], ["b"], ["c"]])
        for a in range(6):
            house.tie("c", (a + 1) % 6, a)
        self.same(house.classes(), [["a"], ["b", "c"]])
        self.same(house.alike("c"), ["b", "c"])
        self.same(house.twists("c"), 12)
        house.back()
        self.same(house.classes(), [["a"], ["b"], ["c"]])
        house.again()
        self.same(house.alike("b"), ["b", "c"])
        house.rename("b", (5, 3, 1, 0, 2, 4))
        self.same(house.alike("b"), ["b", "c"])
        self.same(house.form("b"), house.form("c"))
        house.drop("a")
        self.same(house.classes(), [["b", "c"]])
        house.paint("b", 0, 1)
        self.same(house.classes(), [["b"], ["c"]])

    def test_each_told_list_is_a_new_one(self):
        house = house_with()
        house.twin("pair", "other")
        self.told_anew(house.names)
        self.told_anew(house.classes)
        self.told_anew(house.alike, "pair")
        self.told_anew(house.find, PAIR)
        self.told_anew(house.diary)
        told = house.classes()
        told[1].append("done to it")
        self.same(house.classes(), [["full"], ["none"], ["other", "pair"], ["ring"]])
        told = house.several([("enter", "pair")])
        told.append("done to it")
        house.back()
        house.again()
        self.holds(house, {**WEBS, "other": PAIR, "pair": with_corner(PAIR)})

    def test_what_was_told_earlier_stays(self):
        house = house_with()
        told = [house.names(), house.classes(), house.alike("pair"), house.find(ring(3)), house.diary(), house.web("pair"),
                house.form("pair"), house.several([("enter", "ring")]), house.visit(lambda name, web: web)]
        ahead = picture(told)
        for row in ROWS[1:] + WRONG:
            outcome(by_row, house, row)
        house.back()
        house.several([("put", "newer", PAIR), ("drop", "ring")])
        outcome(house.again)
        house.visit(lambda name, web: 1)
        self.assertEqual(picture(told), ahead)


class TwoHouses(Houses):
    def test_each_goes_its_own_way(self):
        one, other = house_with(), house_with()
        one.enter("pair")
        one.drop("ring")
        self.holds(other, WEBS)
        other.back()
        self.same(other.names(), ["none", "pair", "ring"])
        self.same(one.names(), ["full", "none", "pair"])
        self.same(can_go(one), (6, 0))
        self.same(can_go(other), (3, 1))
        one.visit(lambda name, web: other.paint("pair", 0, len(web)))
        self.same(other.web("pair"), painted(PAIR, 0, 3))
        self.same(can_go(other), (6, 0))

    def test_a_web_handed_over(self):
        one, other = house_with(), House()
        other.put("pair", one.web("pair"))
        other.enter("pair")
        self.holds(one, WEBS)
        self.same(other.web("pair"), with_corner(PAIR))


class TheSameEachTime(Case):
    def test_in_another_run(self):
        told = told_elsewhere(
            "from likewebs.house import House",
            "house = House()",
            "for at, web in enumerate(knotty_webs()):",
            "    house.put('abcdefghijklmnopqrstuvwxyz'[at], web)",
            "for name in house.names():",
            "    print(house.form(name).arrows, house.naming(name), house.twists(name), house.alike(name))",
            "print(house.classes(), house.diary())",
        )
        self.assertEqual(told[0], told[1])
        self.assertTrue(told[0])


if __name__ == "__main__":
    unittest.main()
