"""Every name, argument and default value that the interface lists for the modules that there are."""

import importlib
import inspect
import re
import unittest

from likewebs.webs import Web
from tests.common import ROOT, Case

FUNCTIONS = {
    "wholes": {"is_whole": "(thing)"},
    "namings": {
        "is_naming": "(many, thing)", "naming_of": "(thing)", "stays": "(many)", "then": "(first, second)",
        "back": "(naming)", "rings": "(naming)", "order_of": "(naming)",
    },
    "webs": {"Web": "(colours, arrows=())", "renamed": "(web, naming)", "leads": "(web, naming, other)"},
    "changes": {
        "with_arrow": "(web, a, b, *, mark=1)", "without_arrow": "(web, a, b)", "with_corner": "(web, *, colour=0)",
        "without_corner": "(web, corner)", "painted": "(web, corner, colour)",
    },
    "stands": {
        "is_stand": "(web, thing)", "by_colours": "(web)", "cell_of": "(stand, corner)",
        "look": "(web, stand, corner)", "is_even": "(web, stand)", "finer": "(one, other)",
    },
    "refine": {
        "next_stand": "(web, stand)", "rounds": "(web, stand)", "refined": "(web, stand)", "root": "(web)",
        "apart": "(web, stand, a, b)", "telling": "(web, stand)",
    },
    "logs": {"walked": "(web, stand, log)", "log_of": "(web, stand)"},
    "rows": {
        "is_row": "(web, thing)", "check_row": "(web, thing)", "singled": "(web, stand, corner)",
        "row_stand": "(web, row)", "row_telling": "(web, row)", "target": "(stand)", "kids": "(web, row)",
        "worth": "(web, row)",
    },
    "leaves": {"naming_by": "(stand)", "leaves": "(web, *, most=60)"},
    "fitting": {"fits": "(web, row, other, other_row, thing)"},
    "nopapers": {"right_no": "(web, row, other, other_row, thing)"},
    "seeking": {"sought": "(web, row, other, other_row)", "fitting": "(web, row, other, other_row)"},
    "carrying": {
        "carried_row": "(row, naming)", "carried_twist": "(twist, naming)",
        "carried_no": "(paper, naming, other_naming)",
    },
    "grouping": {
        "is_twist": "(web, row, thing)", "right_group": "(web, row, thing)", "group_of": "(web, row=())",
    },
    "covers": {
        "right_cover": "(web, row, thing)", "least": "(web, row, cover)", "carried_cover": "(cover, naming)",
    },
    "forms": {
        "cover_of": "(web, row=())", "form": "(web)", "form_naming": "(web)", "same_form": "(one, other)",
    },
    "groups": {
        "size": "(group)", "way": "(group, level, corner)", "made": "(group, word)", "word_of": "(group, thing)",
        "member": "(group, number)", "number_of": "(group, thing)", "turns": "(group)",
        "carried_group": "(group, naming)",
    },
    "house": {"House": "()"},
    "things": {"is_thing": "(thing)", "text_of": "(thing)"},
    "twowebs": {
        "stand_after": "(web, rounds)", "early": "(one, other)", "right_answer": "(one, other, thing)",
        "answer": "(one, other, *, by='search')", "joined": "(first, second)",
        "turned_about": "(one, other, told)", "namings": "(one, other, *, most=1000)", "namings_many": "(one, other)",
    },
    "texts": {"read": "(text)", "web_text": "(web)", "read_web": "(text)"},
    "registers": {
        "register_of": "(house, *, by='search')", "right_register": "(thing)", "house_of": "(thing)",
    },
    "desk": {"Desk": "(house)"},
}

METHODS = {
    ("webs", "Web"): {
        "__init__": "(self, colours, arrows=())", "mark": "(self, a, b)", "__eq__": "(self, other)",
        "__len__": "(self)", "__str__": "(self)", "__repr__": "(self)",
    },
    ("house", "House"): {
        "__init__": "(self)", "put": "(self, name, web)", "drop": "(self, name)", "twin": "(self, name, new)",
        "tie": "(self, name, a, b, *, mark=1)", "untie": "(self, name, a, b)", "enter": "(self, name, *, colour=0)",
        "leave": "(self, name, corner)", "paint": "(self, name, corner, colour)", "rename": "(self, name, naming)",
        "back": "(self)", "again": "(self)", "several": "(self, rows)", "visit": "(self, visitor)", "names": "(self)",
        "web": "(self, name)", "form": "(self, name)", "naming": "(self, name)", "twists": "(self, name)",
        "alike": "(self, name)", "find": "(self, web)", "classes": "(self)", "busy": "(self)", "diary": "(self)",
    },
    ("desk", "Desk"): {
        "__init__": "(self, house)", "say": "(self, line)", "script": "(self, lines, *, ear=None, stop=True)",
        "log": "(self)",
    },
}

CONSTANTS = {
    "MOST": 12, "GREATEST": 1000000000, "ONE": 1, "PLAIN": 0, "FEW": 60, "HOUSE": 40, "KEPT": 20, "DIARY": 30,
}


def module(name):
    return importlib.import_module("likewebs." + name)


class Interface(Case):
    def test_functions_and_their_arguments(self):
        for place, names in FUNCTIONS.items():
            for name, wanted in names.items():
                with self.subTest(place=place, name=name):
                    self.assertEqual(str(inspect.signature(getattr(module(place), name))), wanted)

    def test_constants(self):
        for name, wanted in CONSTANTS.items():
            with self.subTest(name=name):
                self.same(getattr(module("wholes"), name), wanted)
        self.same(module("things").DEEP, 60)
        self.same(module("twowebs").BY, "search")
        self.same(module("twowebs").MOST_TOLD, 1000)

    def test_methods_stand_in_the_class_itself(self):
        for (place, kind), names in METHODS.items():
            home = getattr(module(place), kind)
            for name, wanted in names.items():
                with self.subTest(kind=kind, name=name):
                    self.assertIn(name, vars(home))
                    self.assertEqual(str(inspect.signature(vars(home)[name])), wanted)

    def test_what_stands_behind_a_star_is_handed_in_by_name(self):
        changes, leaves = module("changes"), module("leaves")
        web = Web((0, 0))
        self.same(changes.with_arrow(web, 0, 1, mark=9), Web((0, 0), ((0, 1, 9),)))
        self.same(changes.with_corner(web, colour=9), Web((0, 0, 9)))
        self.same(leaves.leaves(web, most=2), [(0,), (1,)])
        for deed, handed in ((changes.with_arrow, (web, 0, 1, 9)), (changes.with_corner, (web, 9)),
                             (leaves.leaves, (web, 2))):
            with self.assertRaises(TypeError):
                deed(*handed)
        house = module("house").House()
        house.put("a", web)
        self.same(house.tie("a", 0, 1, mark=9), None)
        self.same(house.enter("a", colour=9), 2)
        self.same(house.web("a"), Web((0, 0, 9), ((0, 1, 9),)))
        twowebs, registers, desk = module("twowebs"), module("registers"), module("desk").Desk(house)
        self.same(twowebs.answer(web, web, by="forms")[0], "alike")
        self.same(twowebs.namings(web, web, most=2), ((0, 1), (1, 0)))
        self.same(registers.register_of(house, by="early")[1], (("a", ()),))
        self.same(desk.script(["x", "y"], ear=None, stop=False), ["no line"] * 2)
        for deed, handed in ((house.tie, ("a", 0, 1, 9)), (house.enter, ("a", 9)), (twowebs.answer, (web, web, "forms")),
                             (twowebs.namings, (web, web, 2)), (registers.register_of, (house, "early")),
                             (desk.script, ([], None)), (desk.script, ([], None, False))):
            with self.assertRaises(TypeError):
                deed(*handed)

    def test_kinds_of_values_of_groups(self):
        groups, group = module("groups"), module("grouping").group_of(Web((0, 0)))
        for told, kind in ((groups.size(group), int), (groups.way(group, 0, 1), tuple), (groups.made(group, (0,)), tuple),
                           (groups.word_of(group, (1, 0)), tuple), (groups.member(group, 1), tuple),
                           (groups.number_of(group, (1, 0)), int), (groups.turns(group), tuple),
                           (groups.turns(group)[0], tuple), (groups.carried_group(group, (1, 0)), tuple)):
            self.assertIs(type(told), kind)

    def test_kinds_of_values_of_houses(self):
        house = module("house").House()
        for told, kind in ((house.put("a", Web((0, 0))), type(None)), (house.twin("a", "b"), type(None)),
                           (house.enter("a"), int), (house.back(), type(None)), (house.again(), type(None)),
                           (house.several([]), list), (house.visit(lambda name, web: 0), list), (house.names(), list),
                           (house.web("a"), Web), (house.form("a"), Web), (house.naming("a"), tuple),
                           (house.twists("a"), int), (house.alike("a"), list), (house.find(Web(())), list),
                           (house.classes(), list), (house.classes()[0], list), (house.busy(), bool),
                           (house.diary(), list), (house.diary()[0], tuple), (house.diary()[1], tuple)):
            self.assertIs(type(told), kind)
        things = module("things")
        self.assertIs(type(things.is_thing(())), bool)
        self.assertIs(type(things.is_thing(None)), bool)
        self.assertIs(type(things.text_of(0)), str)

    def test_kinds_of_values_of_two_webs_registers_texts_and_desks(self):
        twowebs, texts, registers = module("twowebs"), module("texts"), module("registers")
        house, web, other = module("house").House(), Web((0, 0)), Web((0, 1))
        house.put("a", web)
        desk = module("desk").Desk(house)
        answer = twowebs.answer(web, other)
        for told, kind in ((twowebs.stand_after(web, 3), tuple), (twowebs.early(web, other), int),
                           (twowebs.early(web, web), type(None)), (twowebs.right_answer(web, other, answer), bool),
                           (twowebs.right_answer(web, other, None), bool), (answer, tuple),
                           (twowebs.joined(("alike", (1, 0)), answer), tuple),
                           (twowebs.turned_about(web, other, answer), tuple), (twowebs.namings(web, web), tuple),
                           (twowebs.namings(web, web)[0], tuple), (twowebs.namings_many(web, web), int),
                           (twowebs.namings_many(web, other), int), (texts.read("0"), int), (texts.read("a"), str),
                           (texts.read("(a)"), tuple), (texts.web_text(web), str), (texts.read_web("(() ())"), Web),
                           (registers.register_of(house), tuple), (registers.right_register(()), bool),
                           (registers.right_register(((), (), ())), bool),
                           (registers.house_of(((), (), ())), module("house").House), (desk.say("names"), str),
                           (desk.say(None), str), (desk.script(["names"]), list), (desk.script(["names"])[0], str),
                           (desk.log(), list), (desk.log()[0], tuple)):
            self.assertIs(type(told), kind)

    def test_every_name_of_the_interface_is_looked_at(self):
        told = (ROOT.parent / "shared" / "DOC.md")
        if told.exists():
            told = told.read_text(encoding="utf-8").split("# The interface")[1]
            for name in re.findall(r"`([a-z_]+)\(", told):
                known = [names for names in list(FUNCTIONS.values()) + list(METHODS.values()) if name in names]
                self.assertTrue(known, name)


if __name__ == "__main__":
    unittest.main()
