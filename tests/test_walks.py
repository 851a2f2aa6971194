"""Long rows of deeds, back, again, several and visits, compared with a house told in another way (points [48] to [53], [4])."""

import itertools
import unittest

from likewebs.errors import Busy, NoDeed
from likewebs.house import House
from likewebs.webs import Web
from tests import oracle
from tests.common import HEXAGON, TRIANGLES, Case, bare, chain, chance, full, ring, some_web
from tests.model import Model, No, by_row, outcome
from tests.test_house import all_told, house_with, webs_of

GOOD = ["a", "b", "c", "d", "abcdefgh"]
NAMES = GOOD * 3 + ["A", "", "zz", 5, None, True]
POOL = [Web(()), bare(1), bare(2), bare(3), chain(2), chain(3), ring(3), ring(4), full(3), Web((0, 1), ((0, 1, 2),)),
        Web((1, 0), ((1, 0, 2),)), some_web(4, 1), some_web(4, 2), some_web(5, 3, colours=1), TRIANGLES, HEXAGON, bare(12)]
WEBS = POOL * 2 + [None, [], "a", ((0, 0), ())]


def pick(numbers, parts):
    return parts[next(numbers) % len(parts)]


def some_naming(numbers, many):
    ranked = sorted((next(numbers), a) for a in range(many))
    return tuple(a for _, a in ranked)


def some_name(numbers, state, new):
    """Mostly the name of a web, or a new one; now and then any."""
    likely = [name for name in GOOD if (name in state) != new]
    return pick(numbers, likely) if likely and next(numbers) % 8 else pick(numbers, NAMES)


def two_corners(numbers, many):
    """Mostly two unlike corners."""
    if many < 2 or next(numbers) % 6 == 0:
        return (pick(numbers, [0, 1, many, -1]), pick(numbers, [0, 1, many, True, None]))
    return some_naming(numbers, many)[:2]


def some_row(numbers, state):
    """A row of a deed, mostly right, for a house with these webs."""
    word = pick(numbers, ["put", "put", "put", "drop", "twin", "tie", "tie", "tie", "untie", "untie", "enter", "enter",
                          "leave", "paint", "rename"])
    name = some_name(numbers, state, word == "put")
    colours, marks = state[name] if type(name) is str and name in state else ([0] * 3, {})
    many = len(colours)
    corners = list(range(many)) * 6 + [many, -1, True, None]
    tied = list(marks) * 3 + [two_corners(numbers, many)]
    handed = {
        "put": lambda: (pick(numbers, WEBS),), "drop": lambda: (),
        "twin": lambda: (some_name(numbers, state, True),),
        "tie": lambda: two_corners(numbers, many) + (pick(numbers, [1, 1, 2, 0, 10 ** 9, True]),),
        "untie": lambda: pick(numbers, tied),
        "enter": lambda: (pick(numbers, [0, 0, 1, 2, -1]),), "leave": lambda: (pick(numbers, corners),),
        "paint": lambda: (pick(numbers, corners), pick(numbers, [0, 0, 1, 2, False])),
        "rename": lambda: (some_naming(numbers, pick(numbers, [many, many, many, 3])),),
    }[word]()
    if word in ("tie", "enter") and next(numbers) % 3 == 0:
        handed = handed[:-1]
    return (word, name) + handed


def some_rows(numbers, state):
    """Rows of several deeds, mostly few; now and then one that is none."""
    rows = [some_row(numbers, state) for _ in range(pick(numbers, [0, 1, 1, 2, 2, 3, 4]))]
    if next(numbers) % 9 == 0:
        rows.insert(pick(numbers, list(range(len(rows) + 1))), pick(numbers, [None, (), ("back",), ["drop", "a"], ("drop",)]))
    return rows


def told_web(parts):
    colours, marks = parts
    return Web(colours, [(a, b, mark) for (a, b), mark in marks.items()])


class Walks(Case):
    def agree(self, house, model):
        self.same(house.diary(), model.diary())
        self.same(webs_of(house), {name: told_web(model.state()[name]) for name in sorted(model.state())})
        self.assertIs(house.busy(), False)

    def step(self, house, model, numbers):
        """One step, the same in both."""
        kind = next(numbers) % 20
        if kind < 12:
            row = some_row(numbers, model.state())
            self.same(outcome(by_row, house, row), outcome(model.deed, row))
        elif kind < 15:
            self.same(outcome(house.back), outcome(model.step, "back", -1))
        elif kind < 17:
            self.same(outcome(house.again), outcome(model.step, "again", 1))
        elif kind < 19:
            rows = some_rows(numbers, model.state())
            self.same(outcome(house.several, rows), outcome(model.several, rows))
        else:
            self.visits(house, model, some_row(numbers, model.state()), next(numbers) % 3)

    def visits(self, house, model, row, how):
        """A visit that tries a deed and the like, that raises, or that only tells."""
        def visitor(name, web):
            if how == 0:
                self.assertRaises(Busy, by_row, house, row)
                self.assertRaises(Busy, house.back)
                self.assertRaises(Busy, house.several, [row])
            if how == 1 and name > "b":
                raise NoDeed()
            return name

        def other(name, web):
            if how == 0:
                self.assertRaises(No, model.deed, row)
                self.assertRaises(No, model.step, "back", -1)
                self.assertRaises(No, model.several, [row])
            if how == 1 and name > "b":
                raise No("NoDeed")
            return name

        self.same(outcome(house.visit, visitor), outcome(model.visit, other))

    def test_as_the_model_tells(self):
        for seed in range(24):
            house, model, numbers = House(), Model(), chance(seed)
            for _ in range(150):
                self.step(house, model, numbers)
                self.agree(house, model)

    def test_through_many_deeds_and_back(self):
        for seed in range(6):
            house, model, numbers = House(), Model(), chance(100 + seed)
            for many in (30, 8, 40):
                for _ in range(many):
                    row = some_row(numbers, model.state())
                    self.same(outcome(by_row, house, row), outcome(model.deed, row))
                for by, word in ((-1, "back"), (1, "again"), (-1, "back")):
                    for _ in range(23):
                        self.same(outcome(getattr(house, word)), outcome(model.step, word, by))
                        self.agree(house, model)

    def test_forty_webs(self):
        names = ["".join(signs) for signs in itertools.product("abcdefg", repeat=2)]
        house, model = House(), Model()
        for name in names:
            row = ("put", name, bare(1))
            self.same(outcome(by_row, house, row), outcome(model.deed, row))
        for row in (("twin", "aa", "zz"), ("drop", "aa"), ("twin", "ab", "aa"), ("twin", "ab", "zz"), ("put", "aa", None)):
            self.same(outcome(by_row, house, row), outcome(model.deed, row))
        self.agree(house, model)
        self.same(len(house.names()), 40)


class ToldAnew(Case):
    """Behind every row of deeds all is told as of a new house with the webs as they stand."""

    def test_walks(self):
        for seed in range(4):
            house, model, numbers = House(), Model(), chance(200 + seed)
            walk = Walks()
            for at in range(160):
                walk.step(house, model, numbers)
                # Asked ahead of a change, too, so that nothing that was told once is told again.
                if at % 4 == 0:
                    self.assertEqual(all_told(house), all_told(house_with(webs_of(house))))
            self.alike(house)

    def alike(self, house):
        webs = {name: web for name, web in webs_of(house).items() if len(web) < 9}
        for name, web in webs.items():
            wanted = [other for other in webs if oracle.namings(web, (), webs[other], ())]
            self.same(house.alike(name), wanted)
            self.same(house.twists(name), len(oracle.twists(web, ())))

    def test_another_order_of_putting(self):
        webs = {name: POOL[at] for at, name in enumerate("abcdefghijklmno")}
        self.assertEqual(all_told(house_with(webs)), all_told(house_with({name: webs[name] for name in reversed(webs)})))

    def test_behind_each_kind_of_deed(self):
        house = house_with({"a": ring(3), "b": ring(3), "c": chain(3)})
        rows = [("tie", "c", 2, 0), ("untie", "a", 0, 1), ("enter", "b"), ("leave", "b", 0), ("rename", "a", (2, 0, 1)),
                ("paint", "c", 1, 1), ("twin", "c", "d"), ("drop", "a"), ("put", "a", full(3))]
        for row in rows:
            by_row(house, row)
            self.assertEqual(all_told(house), all_told(house_with(webs_of(house))))
        for word in ["back"] * 9 + ["again"] * 5 + ["back"] * 2:
            getattr(house, word)()
            self.assertEqual(all_told(house), all_told(house_with(webs_of(house))))
        house.several(rows[-2:])
        self.assertEqual(all_told(house), all_told(house_with(webs_of(house))))
        house.visit(lambda name, web: self.assertEqual(all_told(house), all_told(house_with(webs_of(house)))))
        self.assertEqual(all_told(house), all_told(house_with(webs_of(house))))


if __name__ == "__main__":
    unittest.main()
