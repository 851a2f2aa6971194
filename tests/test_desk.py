"""Lines, scripts and the log of a desk (points [57], [58] and [59])."""

import itertools
import unittest

from likewebs.desk import Desk
from likewebs.errors import Busy, LikewebsError, NoDeed, NoName, NoWeb, Refused
from likewebs.house import House
from likewebs.lines import answer_to, things_of
from likewebs.registers import house_of, register_of
from likewebs.texts import read, read_web
from likewebs.things import text_of
from likewebs.twowebs import answer, right_answer
from likewebs.webs import Web, renamed
from tests import oracle
from tests.common import (
    HEXAGON, TRIANGLES, Case, bare, chance, great_webs, in_time, knotty_webs, nested, picture, ring, some_namings, things,
    told_elsewhere, unlike_pairs, variants,
)
from tests.model import by_row, is_deed_row
from tests.test_house import NAMES, house_with, webs_of
from tests.test_walks import pick, some_row

PAIR = Web((0, 5), ((1, 0, 7),))
WEBS = {"pair": PAIR, "ring": ring(3), "none": Web(()), "full": bare(12)}
# How many things stand behind each word.
COUNTS = {
    "put": (2, 3), "drop": (1,), "twin": (2,), "tie": (3, 4), "untie": (3,), "enter": (1, 2), "leave": (2,), "paint": (3,),
    "rename": (2,), "back": (0,), "again": (0,), "names": (0,), "classes": (0,), "web": (1,), "form": (1,), "naming": (1,),
    "twists": (1,), "alike": (1,), "same": (2, 3), "judge": (3,), "register": (0, 1),
}


def line_of(*told):
    """The line of some things."""
    return oracle.text(told)[1:-1]


def shown(told):
    """The text of what is told."""
    if told is None:
        return "()"
    if isinstance(told, Web):
        return oracle.text((told.colours, told.arrows))
    if isinstance(told, list):
        return "(" + " ".join(shown(part) for part in told) + ")"
    return oracle.text(told)


def no(why):
    """The answer of a refusal."""
    fields = ["none" if part is None else oracle.text(part) for part in vars(why).values()]
    return " ".join(["no", type(why).__name__.lower()] + fields)


def put_row(thing):
    """The row of several for a deed of a line, and None or the NoWeb of a put whose web is refused."""
    if type(thing) is not tuple or thing[:1] != ("put",) or len(thing) not in (3, 4):
        return thing, None
    try:
        return ("put", thing[1], Web(*thing[2:])), None
    except NoWeb as why:
        return ("put", thing[1], None), why


def done(house, told):
    """What a house tells to the things of a line, asked by its own methods."""
    word, rest = told[0], told[1:]
    if word == "put":
        row, wrong = put_row(told)
        try:
            return by_row(house, row)
        except NoWeb:
            raise wrong
    if word == "all":
        return house.several([put_row(thing)[0] for thing in rest])
    if word in ("same", "judge"):
        one, other = house.web(rest[0]), house.web(rest[1])
        if word == "judge":
            return int(right_answer(one, other, rest[2]))
        return answer(one, other, by=rest[2]) if len(rest) > 2 else answer(one, other)
    if word == "register":
        return register_of(house, by=rest[0]) if rest else register_of(house)
    return by_row(house, told) if is_deed_row(told) else getattr(house, word)(*rest)


def wanted(house, told):
    """The answer to the things of a line."""
    word = told[0]
    if word != "all" and (word not in COUNTS or len(told) - 1 not in COUNTS[word]):
        return "no line"
    try:
        return "yes " + shown(done(house, told))
    except LikewebsError as why:
        return no(why)


class Desks(Case):
    def say(self, desk, line, answer_wanted):
        self.same(self.call(desk.say, line), answer_wanted)
        self.same(desk.log()[-2:], [("in", line), ("out", answer_wanted)])


class Lines(Desks):
    def test_ordinary(self):
        desk = Desk(House())
        for line, told in (
            ("names", "yes ()"), ("classes", "yes ()"), ("register", "yes (() () ())"), ("put a (0 0) ((0 1 5))", "yes ()"),
            ("put b (0 0)", "yes ()"), ("tie b 1 0 5", "yes ()"), ("names", "yes (a b)"), ("classes", "yes ((a b))"),
            ("web a", "yes ((0 0) ((0 1 5)))"), ("web b", "yes ((0 0) ((1 0 5)))"), ("same a b", "yes (alike (1 0))"),
            ("alike b", "yes (a b)"), ("judge a b (alike (1 0))", "yes 1"), ("judge a b (alike (0 1))", "yes 0"), ("judge a b 7", "yes 0"),
            ("register", "yes (((a (0 0) ((0 1 5))) (b (0 0) ((1 0 5)))) ((a ((b (1 0))))) ())"), ("enter b", "yes 2"), ("enter b 9", "yes 3"),
            ("same a b", "yes (search (unlike))"), ("same a b early", "yes (early 0)"), ("same a b forms", "yes (forms (leaf) (leaf))"),
            ("same b a search", "yes (search (unlike))"), ("twists b", "yes 1"), ("back", "yes ()"), ("back", "yes ()"), ("alike a", "yes (a b)"),
            ("again", "yes ()"), ("untie b 1 0", "yes ()"), ("again", "no nodeed"), ("form b", "yes ((0 0 0) ())"), ("twists b", "yes 6"),
            ("naming a", "yes (1 0)"), ("form a", "yes ((0 0) ((1 0 5)))"),
            ("paint b 0 4", "yes ()"), ("leave b 1", "yes ()"), ("rename b (1 0)", "yes ()"), ("web b", "yes ((0 4) ())"),
            ("twin b c", "yes ()"), ("drop b", "yes ()"), ("names", "yes (a c)"),
            ("all (enter a) (drop c) (put d () ()) (enter d 3) (put e (1))", "yes (2 () () 0 ())"), ("names", "yes (a d e)"), ("all", "yes ()"),
            ("back", "yes ()"), ("back", "yes ()"), ("names", "yes (a c)"),
        ):
            self.say(desk, line, told)

    def test_each_refusal(self):
        desk = Desk(house_with(WEBS))
        for line, told in (
            ("put pair ()", "no taken pair"), ("put 5 ()", "no noname 5"), ("put (a) (x)", "no noname (a)"), ("put pair x", "no taken pair"),
            ("put new x", "no noweb none"), ("put new 5", "no noweb none"), ("put new (x)", "no noweb none"), ("put new (0 0) x", "no noweb none"),
            ("put new (0 0) (x)", "no noweb 0"), ("put new (0 0) ((0 1 5) (0 1 6))", "no noweb 1"), ("put new (0 0) ((0 1 1) (1 0 0))", "no noweb 1"),
            ("drop new", "no noname new"), ("drop ()", "no noname ()"), ("twin new pair", "no noname new"), ("twin pair ring", "no taken ring"),
            ("twin pair 0", "no noname 0"), ("tie pair 2 0", "no nocorner 2"), ("tie pair 0 0", "no nocorner 0"), ("tie pair 0 (1)", "no nocorner (1)"),
            ("tie pair 0 1 0", "no nonumber 0"), ("tie pair 0 1 x", "no nonumber x"), ("tie pair x y z", "no nocorner x"), ("tie x y z", "no noname x"),
            ("untie pair 0 1", "no noarrow 0 1"), ("untie pair 0 7", "no nocorner 7"), ("enter full", "no full"), ("enter full x", "no nonumber x"),
            ("enter pair ((1) a)", "no nonumber ((1) a)"), ("leave pair 2", "no nocorner 2"), ("paint pair 0 x", "no nonumber x"),
            ("paint pair 9 x", "no nocorner 9"), ("rename pair (0 0)", "no nonaming"), ("rename pair x", "no nonaming"), ("again", "no nodeed"),
            ("web x", "no noname x"), ("form 1000000000", "no noname 1000000000"), ("naming ()", "no noname ()"), ("twists x", "no noname x"),
            ("alike (1 (2))", "no noname (1 (2))"), ("same x y", "no noname x"), ("same pair y", "no noname y"), ("same x y z", "no noname x"),
            ("same pair y z", "no noname y"), ("same pair ring z", "no nosuch z"), ("same pair pair z", "no nosuch z"), ("same pair ring 0", "no nosuch 0"),
            ("same pair ring (early)", "no nosuch (early)"), ("same pair ring alike", "no nosuch alike"), ("judge x y z", "no noname x"),
            ("judge pair y z", "no noname y"), ("judge pair ring z", "yes 0"), ("register x", "no nosuch x"), ("register ()", "no nosuch ()"),
            ("all x", "no refused 0"), ("all (drop x)", "no refused 0"), ("all (drop pair) (drop pair)", "no refused 1"), ("all ()", "no refused 0"),
            ("all (names)", "no refused 0"), ("all (back)", "no refused 0"), ("all (enter ring) (put new (0 0) ((0 0 0)))", "no refused 1"),
        ):
            ahead = webs_of(desk.house)
            self.say(desk, line, told)
            self.assertEqual(webs_of(desk.house), ahead)
        empty = Desk(House())
        self.say(empty, "back", "no nodeed")
        self.say(Desk(house_with({name: Web(()) for name in NAMES[:40]})), "put new ()", "no full")
        self.say(Desk(house_with({name: Web(()) for name in NAMES[:40]})), "twin aa new", "no full")
        self.say(Desk(house_with({name: Web(()) for name in NAMES[:40]})), "put new (x)", "no noweb none")

    def test_no_lines(self):
        desk = Desk(house_with(WEBS))
        ahead = desk.house.diary()
        for line in (
            "", " ", "put", "put new", "put new () () ()", "drop", "drop pair ring", "twin pair", "twin pair a b", "tie pair 0", "tie pair 0 1 2 3", "untie pair 0",
            "untie pair 0 1 2", "enter", "enter pair 1 2", "leave pair", "leave pair 0 1", "paint pair 0", "paint pair 0 1 2", "rename pair",
            "rename pair (0 1) 2", "back 1", "again ()", "names x", "classes x", "web", "web pair pair", "form", "form pair pair", "naming", "naming pair 0",
            "twists", "twists pair 0", "alike", "alike pair ring", "same", "same pair", "same pair ring early early", "judge pair ring", "judge pair",
            "judge pair ring (early 0) 0", "register early early", "several", "visit", "diary", "busy", "find pair", "log", "say names", "script", "help", "yes",
            "no", "line", "Names", "NAMES", "names ", " names", "names\n", "\nnames", "(names)", "((names))", "names)", "(names", "names(", "()", "(", ")",
            "0", "5 names", "(put) a", "() names", "put a  ()", "put  a ()", "put a ()  ()", "put a (0  0)", "put a (0 0", "put a 0 0)", "put a ( 0)", "put a (00)",
            "put a (01)", "put a 1000000001", "abcdefghi", "enter abcdefghi", "put A ()", "put a [0]", "put a (0,0)", "put a -1", "put a (0 0) ((0 1 -5))",
            "names) (names", "a) (b", "enter pair " + "(" * 60 + ")" * 60, "drop pair ()", "names names",
        ):
            self.say(desk, line, "no line")
        self.same(desk.house.diary(), ahead)
        self.assertEqual(webs_of(desk.house), {name: WEBS[name] for name in sorted(WEBS)})

    def test_the_deepest_line(self):
        desk = Desk(house_with(WEBS))
        self.say(desk, "drop " + "(" * 59 + ")" * 59, "no noname " + "(" * 59 + ")" * 59)
        self.say(desk, "drop " + "(" * 60 + ")" * 60, "no line")
        self.say(desk, "judge pair ring " + text_of(nested(tuple, 59)), "yes 0")

    def test_things_that_are_no_texts(self):
        desk = Desk(house_with(WEBS))
        for thing in things() + [b"names", ["names"], ("names",), {"names": 1}, [], None, 0]:
            if not isinstance(thing, str):
                self.same(self.call(desk.say, thing), "no line")
                self.same(desk.log()[-2:], [("in", None), ("out", "no line")])
            else:
                self.same(desk.say(thing), "no line")
                self.same(desk.log()[-2:], [("in", thing), ("out", "no line")])

    def test_every_sign_put_in_changed_or_taken_out(self):
        for line in ("put a (0 5) ((0 1 7))", "tie pair 0 1 4", "same pair ring early", "all (enter pair) (drop ring)", "names"):
            for sign in "0a( )A\n":
                for at in range(len(line) + 1):
                    for bent in (line[:at] + sign + line[at:], line[:at] + sign + line[at + 1:], line[:at] + line[at + 1:]):
                        desk, other = Desk(house_with(WEBS)), house_with(WEBS)
                        right = oracle.is_text("(" + bent + ")") and bent[:1].isalpha()
                        told = wanted(other, read("(" + bent + ")")) if right else "no line"
                        self.same(desk.say(bent), told)
                        self.assertEqual(picture(webs_of(desk.house)), picture(webs_of(other)))
                        self.same(desk.house.diary(), other.diary())

    def test_what_is_left_out(self):
        desk = Desk(House())
        for line, told in (("put a (0 0)", Web((0, 0))), ("put b (0 0) ()", Web((0, 0))), ("tie a 0 1", Web((0, 0), ((0, 1, 1),)))):
            self.say(desk, line, "yes ()")
            self.same(desk.house.web(line.split()[1]), told)
        self.say(desk, "enter a", "yes 2")
        self.same(desk.house.web("a"), Web((0, 0, 0), ((0, 1, 1),)))
        self.same(desk.say("same a b"), desk.say("same a b search"))
        self.same(desk.say("register"), desk.say("register search"))
        self.say(desk, "all (put c (0 0)) (tie c 0 1) (enter c)", "yes (() () 2)")
        self.same(desk.house.web("c"), desk.house.web("a"))

    def test_that_very_house(self):
        house = house_with(WEBS)
        desk, other = Desk(house), Desk(house)
        desk.say("drop pair")
        self.same(house.names(), ["full", "none", "ring"])
        other.say("drop ring")
        self.say(desk, "names", "yes (full none)")
        house.back()
        self.say(desk, "names", "yes (full none ring)")
        self.same(other.log(), [("in", "drop ring"), ("out", "yes ()")])

    def test_as_the_house_by_itself(self):
        for seed in range(12):
            numbers = chance(seed)
            house, other = House(), House()
            desk = Desk(house)
            for _ in range(120):
                told = self.some_things(numbers, other)
                self.say(desk, line_of(*told), wanted(other, told))
                self.assertEqual(picture(webs_of(house)), picture(webs_of(other)))
                self.same(house.diary(), other.diary())

    def some_things(self, numbers, house):
        """The things of a line, right or wrong."""
        kind = next(numbers) % 12
        names = ["a", "b", "c", "d", "abcdefgh", "zz", 5, ("a",)]
        if kind < 5:
            return self.some_deed(numbers, house)
        if kind < 6:
            odd = [5, "drop", (), ("names",), ("put", "a"), ("put", "zz", ("x",)), ("put", "z", (0, 0), ((0, 1, 1), (0, 1, 1)))]
            deeds = [self.some_deed(numbers, house) for _ in range(next(numbers) % 4)]
            return ("all", *deeds) + ((pick(numbers, odd),) if next(numbers) % 3 == 0 else ())
        if kind < 8:
            return (pick(numbers, ["back", "again", "names", "classes", "register"]),)
        if kind < 9:
            return ("register", pick(numbers, ["early", "search", "forms", "other", 0]))
        if kind < 10:
            word = pick(numbers, [(), ("early",), ("search",), ("forms",), ("alike",), (3,)])
            return ("same", pick(numbers, names), pick(numbers, names)) + word
        if kind < 11:
            given = pick(numbers, [("early", 0), ("search", ("unlike",)), ("alike", (1, 0)), ("alike", (0,)), 0, "a", ("early", 13)])
            return ("judge", pick(numbers, names), pick(numbers, names), given)
        return (pick(numbers, ["web", "form", "naming", "twists", "alike", "find"]), pick(numbers, names))

    def some_deed(self, numbers, house):
        while True:
            state = {name: (list(web.colours), {(a, b): mark for a, b, mark in web.arrows}) for name, web in webs_of(house).items()}
            row = some_row(numbers, state)
            if row[0] == "put":
                web = row[2] if isinstance(row[2], Web) else Web((0, 0))
                bent = pick(numbers, [(), (), (), ("x",), ((0, 1), 5), ((0, 0), ((0, 1, 1), (0, 1, 2)))])
                row = row[:2] + (bent or (web.colours, web.arrows))
            if oracle.is_thing(row):
                return row


class Puts(Desks):
    """A put whose web is refused, by itself and within several."""

    def test_in_the_diary(self):
        house = house_with(WEBS)
        desk = Desk(house)
        self.say(desk, "put new (0 0) ((0 1 5) (0 1 6))", "no noweb 1")
        self.same(house.diary()[-2:], [("in", "put"), ("out", "put", False)])
        self.say(desk, "all (enter pair) (put new (0 0) ((0 1 5) (0 1 6))) (drop pair)", "no refused 1")
        self.same(house.diary()[-6:], [("in", "all"), ("in", "enter"), ("out", "enter", True), ("in", "put"), ("out", "put", False),
                                       ("out", "all", False)])
        self.say(desk, "all (enter pair) (put new)", "no refused 1")
        self.same(house.diary()[-4:], [("in", "all"), ("in", "enter"), ("out", "enter", True), ("out", "all", False)])
        self.say(desk, "all (put new () () ())", "no refused 0")
        self.same(house.diary()[-2:], [("in", "all"), ("out", "all", False)])
        self.say(desk, "all put", "no refused 0")
        self.same(house.diary()[-2:], [("in", "all"), ("out", "all", False)])

    def test_as_a_web_refuses(self):
        right = ((0, 0, 4), ((0, 1, 5), (1, 2, 1)))
        for given in variants(right, [0, 1, 3, 10 ** 9, "a", (), (0,), (1, 0, 3)]):
            if not oracle.is_thing(given) or type(given) is not tuple or len(given) != 2:
                continue
            word, *told = oracle.web_parts(*given)
            desk = Desk(House())
            if word == "no":
                at = "none" if told[0] is None else told[0]
                self.say(desk, line_of("put", "a", *given), f"no noweb {at}")
                self.say(desk, line_of("put", 7, *given), "no noname 7")
                self.say(desk, line_of("all", ("put", "b", ()), ("put", "a", *given)), "no refused 1")
                self.same(desk.house.names(), [])
            else:
                self.say(desk, line_of("put", "a", *given), "yes ()")
                self.say(desk, "web a", "yes " + oracle.text(tuple(told)))
                self.say(desk, line_of("all", ("put", "b", ()), ("put", "c", *given)), "yes (() ())")
                self.same(desk.house.web("c"), Web(*given))

    def test_through_their_lines(self):
        desk = Desk(House())
        for name, web in zip(NAMES, knotty_webs()):
            self.say(desk, line_of("put", name, web.colours, web.arrows), "yes ()")
            self.same(read_web(desk.say("web " + name)[4:]), web)
        house = house_of(read(desk.say("register forms")[4:]))
        self.assertEqual(picture(webs_of(house)), picture(webs_of(desk.house)))


class Answers(Desks):
    def test_same_and_judge(self):
        for one, other in unlike_pairs()[:6]:
            desk = Desk(house_with({"a": one, "b": other, "c": renamed(one, some_namings(len(one))[-1])}))
            for by in ("", " early", " search", " forms"):
                told = desk.say("same a b" + by)
                self.same(told[:4], "yes ")
                self.same(desk.say("judge a b " + told[4:]), "yes 1")
                self.same(desk.say("judge a c " + told[4:]), "yes 0")
                self.same(desk.say("same a c" + by)[:11], "yes (alike ")
                self.same(desk.say("judge a c " + desk.say("same a c" + by)[4:]), "yes 1")
            self.same(desk.say("judge a b 0"), "yes 0")

    def test_bent_answers(self):
        desk = Desk(house_with({"a": TRIANGLES, "b": HEXAGON, "c": bare(2), "d": Web((0, 1))}))
        for one, other, names in ((bare(2), Web((0, 1)), "c d "), (Web((0, 1)), bare(2), "d c ")):
            for by in ("early", "search", "forms"):
                for thing in variants(answer(one, other, by=by), [0, 1, "a", (), "unlike", ("leaf",), 13]):
                    if oracle.is_thing(thing):
                        told = "yes 1" if oracle.right_answer(one, other, thing) else "yes 0"
                        self.same(desk.say("judge " + names + oracle.text(thing)), told)

    def test_great_webs_in_a_few_seconds(self):
        desk = Desk(house_with(dict(zip(NAMES, great_webs()))))
        for line in ("classes", "twists aa", "same aa ab forms", "register early", "register forms", "form aa", "alike ac"):
            self.assertTrue(in_time(self, desk.say, line).startswith("yes "))
        self.same(desk.say("twists aa"), "yes 479001600")


class Scripts(Desks):
    def test_ordinary(self):
        desk = Desk(House())
        self.same(self.call(desk.script, []), [])
        self.same(self.call(desk.script, ["put a (0 0)", "names", "enter a"]), ["yes ()", "yes (a)", "yes 2"])
        self.same(desk.log(), [("begin",), ("end", True), ("begin",), ("in", "put a (0 0)"), ("out", "yes ()"), ("in", "names"),
                               ("out", "yes (a)"), ("in", "enter a"), ("out", "yes 2"), ("end", True)])

    def test_stop(self):
        lines = ["put a ()", "drop b", "put b ()", None, "enter a", "names"]
        everything = ["yes ()", "no noname b", "yes ()", "no line", "yes 0", "yes (a b)"]
        for named, told in (({}, everything[:2]), ({"stop": True}, everything[:2]), ({"stop": False}, everything)):
            desk = Desk(House())
            self.same(self.call(desk.script, lines, **named), told)
            self.same(desk.house.names(), ["a"] if len(told) == 2 else ["a", "b"])
            rows = [row for line, given in zip(lines, told) for row in (("in", line), ("out", given))]
            self.same(desk.log(), [("begin",)] + rows + [("end", True)])
        for first in ("drop x", 5, "", "back", "same x y"):
            self.same(len(Desk(House()).script([first, "names"])), 1)
            self.same(len(Desk(House()).script(["names", first, "names"], stop=True)), 2)
        # A word no is none that ends it but at the beginning of an answer.
        self.same(Desk(House()).script(["put no ()", "names", "names"]), ["yes ()", "yes (no)", "yes (no)"])

    def test_handed_in_by_name(self):
        desk = Desk(House())
        self.assertRaises(TypeError, desk.script, [], None)
        self.assertRaises(TypeError, desk.script, [], None, True)

    def test_ear(self):
        for ear_named in ({}, {"ear": None}):
            self.same(Desk(House()).script(["names"], **ear_named), ["yes ()"])
        for stop, many in ((True, 3), (False, 5)):
            desk, heard = Desk(House()), []
            lines = ["put a ()", ["names"], "drop b", 7, "names"] if not stop else ["put a ()", "names", "drop b", "names", "names"]
            if not stop:
                told = desk.script(lines, ear=lambda said, given: heard.append((said, given)), stop=False)
            else:
                told = desk.script(lines, ear=lambda said, given: heard.append((said, given)))
            self.same(len(told), many)
            self.same(heard, list(zip(lines, told)))
            # What was said, that very thing.
            for (said, _), line in zip(heard, lines):
                self.assertIs(said, line)

    def test_an_ear_that_speaks_to_the_desk(self):
        for line in ("names", "put b ()", "drop a", "", None, 5, "no such", "back"):
            desk, heard = Desk(House()), []
            told = desk.script(["put a ()", "names"], ear=lambda said, given: heard.append(desk.say(line)))
            self.same(told, ["yes ()", "yes (a)"])
            self.same(heard, ["no busy", "no busy"])
            shown_line = line if isinstance(line, str) else None
            within = [("in", shown_line), ("out", "no busy")]
            self.same(desk.log(), [("begin",), ("in", "put a ()"), ("out", "yes ()")] + within + [("in", "names"), ("out", "yes (a)")]
                      + within + [("end", True)])
            self.same(desk.house.names(), ["a"])
            self.same(desk.house.diary(), [("in", "put"), ("out", "put", True)])
            self.same(desk.say("names"), "yes (a)")

    def test_an_ear_that_speaks_to_another_desk_over_the_same_house(self):
        house = House()
        desk, other, heard = Desk(house), Desk(house), []
        told = desk.script(["put a ()", "names"], ear=lambda said, given: heard.append(other.script(["enter a", "web a"])))
        self.same(told, ["yes ()", "yes (a)"])
        self.same(heard, [["yes 0", "yes ((0) ())"], ["yes 1", "yes ((0 0) ())"]])
        self.same(len(desk.log()), 6)
        self.same(len(other.log()), 12)

    def test_an_ear_that_asks_the_house(self):
        desk, heard = Desk(House()), []

        def ear(said, given):
            heard.append((desk.house.names(), desk.house.busy(), desk.log()[-1]))
            desk.house.enter("a")

        desk.script(["put a ()", "web a"], ear=ear)
        self.same(heard, [(["a"], False, ("out", "yes ()")), (["a"], False, ("out", "yes ((0) ())"))])

    def test_an_ear_that_begins_a_script(self):
        desk = Desk(House())

        def ear(said, given):
            self.refused(Busy, {}, desk.script, ["put b ()"])
            self.refused(Busy, {}, desk.script, [], stop=False, ear=ear)

        self.same(desk.script(["put a ()"], ear=ear), ["yes ()"])
        self.same(desk.log(), [("begin",), ("in", "put a ()"), ("out", "yes ()")] + [("begin",), ("end", False)] * 2 + [("end", True)])
        self.same(desk.house.names(), ["a"])
        # Where it isn't caught it ends the script.
        self.refused(Busy, {}, desk.script, ["put b ()", "put c ()"], ear=lambda said, given: desk.script(["names"]))
        self.same(desk.log()[-6:], [("begin",), ("in", "put b ()"), ("out", "yes ()"), ("begin",), ("end", False), ("end", False)])
        self.same(desk.script(["names"]), ["yes (a b)"])

    def test_an_ear_that_raises(self):
        for kind, fields in ((NoDeed, ()), (LikewebsError, ()), (NoName, ("x",)), (Busy, ()), (Refused, (2,))):
            for last in range(3):
                desk, heard = Desk(House()), []

                def ear(said, given):
                    heard.append(said)
                    if len(heard) > last:
                        raise kind(*fields)

                lines = ["put a ()", "put b ()", "put c ()"]
                with self.assertRaises(kind) as caught:
                    desk.script(lines, ear=ear)
                self.same(tuple(vars(caught.exception).values()), fields)
                # What was done stays done, and the desk is open.
                self.same(desk.house.names(), list("abc"[:last + 1]))
                rows = [row for line in lines[:last + 1] for row in (("in", line), ("out", "yes ()"))]
                self.same(desk.log(), [("begin",)] + rows + [("end", False)])
                self.same(desk.say("back"), "yes ()")
                self.same(desk.script(["names"])[0][:5], "yes (")

    def test_another_error(self):
        # Not promised, but the desk is open behind it.
        desk = Desk(House())
        with self.assertRaises(KeyError):
            desk.script(["names"], ear=lambda said, given: {}[said])
        self.same(desk.say("names"), "yes ()")
        self.same(desk.log()[-3:], [("end", False), ("in", "names"), ("out", "yes ()")])

    def test_the_list_of_lines_is_the_asker_s(self):
        desk, lines = Desk(House()), ["put a ()", "names"]
        told = desk.script(lines, ear=lambda said, given: lines.append("drop a") if len(lines) < 9 else None)
        self.same(told, ["yes ()", "yes (a)"])
        self.told_anew(desk.script, ["names", "classes"])
        told.append("done to it")
        self.same(desk.script(["names"]), ["yes (a)"])


class WhileTheHouseIsVisited(Desks):
    def test_lines(self):
        house = house_with({"a": PAIR, "b": renamed(PAIR, (1, 0))})
        house.enter("a")
        house.back()
        desk = Desk(house)
        busy = ["put c ()", "put a x", "drop a", "twin a c", "tie a 0 1", "untie a 0 1", "enter a", "leave a 0", "paint a 0 1", "rename a (1 0)",
                "back", "again", "all", "all x", "all (drop a)", "put 5 x", "drop x"]
        told = ["names", "classes", "web a", "form a", "naming a", "twists a", "alike a", "same a b", "judge a b 0", "register", "register early",
                "web x", "same a b x"]
        wants = [Desk(house_with({"a": PAIR, "b": renamed(PAIR, (1, 0))})).say(line) for line in told]

        def visitor(name, web):
            for line in busy:
                self.say(desk, line, "no busy")
            for line, want in zip(told, wants):
                self.say(desk, line, want)
            self.say(desk, "drop", "no line")
            self.same(desk.script(["names", "drop a", "names"]), ["yes (a b)", "no busy"])
            self.same(desk.script(["drop a", "names"], stop=False), ["no busy", "yes (a b)"])

        house.visit(visitor)
        self.assertIs(house.busy(), False)
        self.same(house.names(), ["a", "b"])
        self.say(desk, "again", "yes ()")

    def test_an_ear_that_visits(self):
        desk = Desk(house_with({"a": PAIR}))
        heard = []
        desk.script(["names"], ear=lambda said, given: heard.extend(desk.house.visit(lambda name, web: desk.say("names"))))
        self.same(heard, ["no busy"])


class Log(Desks):
    def test_the_last_thirty_rows(self):
        desk, rows = Desk(House()), []
        self.same(desk.log(), [])
        for at in range(20):
            line = line_of("put", NAMES[at], (at,))
            desk.say(line)
            rows += [("in", line), ("out", "yes ()")]
            self.same(desk.log(), rows[-30:])
        desk.say(None)
        rows += [("in", None), ("out", "no line")]
        self.same(desk.log(), rows[-30:])

        def ear(said, given):
            rows.extend([("in", said), ("out", given)])
            self.same(desk.log(), rows[-30:])
            desk.say("names")
            rows.extend([("in", "names"), ("out", "no busy")])
            self.same(desk.log(), rows[-30:])

        rows.append(("begin",))
        desk.script(["enter aa", "twists aa"] * 9, ear=ear)
        rows.append(("end", True))
        self.same(desk.log(), rows[-30:])
        self.same(len(desk.log()), 30)
        self.told_anew(desk.log)

    def test_two_desks_have_two_logs(self):
        house = House()
        one, other = Desk(house), Desk(house)
        one.say("names")
        self.same(other.log(), [])
        other.script([])
        self.same(one.log(), [("in", "names"), ("out", "yes ()")])
        self.same(other.log(), [("begin",), ("end", True)])

    def test_what_was_told_earlier_stays(self):
        desk = Desk(House())
        told = [desk.script(["put a ()", "names"]), desk.log()]
        ahead = picture(told)
        desk.say("drop a")
        desk.script(["names"] * 20)
        self.assertEqual(picture(told), ahead)


class TheSameEachTime(Case):
    def test_in_another_run(self):
        told = told_elsewhere(
            "from likewebs.desk import Desk",
            "from likewebs.house import House",
            "from likewebs.texts import web_text",
            "desk = Desk(House())",
            "for at, web in enumerate(knotty_webs()[:8]):",
            "    print(desk.say('put ' + 'abcdefgh'[at] + ' ' + web_text(web)[1:-1]))",
            "for line in ('classes', 'register', 'register forms', 'register early', 'same a b forms', 'form c'):",
            "    print(desk.say(line))",
            "print(desk.log()[:20], desk.house.diary())",
        )
        self.assertEqual(told[0], told[1])
        self.assertNotIn("no ", told[0][:60])

    def test_said_twice(self):
        desk = Desk(house_with({"a": TRIANGLES, "b": HEXAGON}))
        for line in ("names", "classes", "form a", "naming b", "same a b", "same a b forms", "register", "twists a"):
            self.same(desk.say(line), desk.say(line))


class OwnNames(Case):
    """The program's own names for what a line is and how it is answered."""

    def test_things_of(self):
        self.same(things_of("put a (0 0)"), ("put", "a", (0, 0)))
        self.same(things_of("a"), ("a",))
        for thing in ("", "5", "(a)", "a ", " a", "a  b", None, 5, ["a"], ("a",), "a)", "A"):
            self.assertIs(self.call(things_of, thing), None)

    def test_answer_to(self):
        for line, thing in itertools.product(("names", "drop a", "nothing", None), ({}, {"a": PAIR})):
            self.same(answer_to(house_with(thing), line), Desk(house_with(thing)).say(line))


if __name__ == "__main__":
    unittest.main()
