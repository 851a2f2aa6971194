"""Namings (point [7])."""

import itertools
import unittest

from likewebs.errors import NoNaming
from likewebs.namings import back, is_naming, naming_of, order_of, rings, stays, then
from tests import oracle
from tests.common import Case, few_things, some_namings, things, variants

MOST = tuple(range(12))
LONG = (1, 2, 0, 4, 5, 6, 3, 8, 9, 10, 11, 7)


def small_namings():
    return [naming for many in range(5) for naming in itertools.permutations(range(many))]


class IsNaming(Case):
    def test_namings(self):
        for many, thing in ((0, ()), (1, (0,)), (2, (1, 0)), (3, (1, 2, 0)), (12, MOST), (12, MOST[::-1])):
            self.assertIs(is_naming(many, thing), True)

    def test_others(self):
        for many, thing in (
            (0, (0,)), (1, ()), (2, (0,)), (2, (0, 1, 2)), (2, (0, 0)), (2, (1, 1)), (2, (1, 2)), (2, (-1, 0)),
            (2, [1, 0]), (0, []), (2, (False, True)), (2, (0, True)), (2, (False, 1)), (1, (False,)), (1, ("0",)),
            (0, None), (0, {}), (0, ""), (1, ((0,),)), (3, (0, 1)), (12, tuple(range(13))), (12, tuple(range(11))),
            (2, (0, 10 ** 40)),
        ):
            self.assertIs(is_naming(many, thing), False)

    def test_anything(self):
        for many in (0, 1, 2, 3, 12):
            for thing in things():
                self.assertIs(self.call(is_naming, many, thing), oracle.is_naming(many, thing))
            for thing in variants(tuple(range(many))[::-1], few_things()):
                self.assertIs(self.call(is_naming, many, thing), oracle.is_naming(many, thing))

    def test_all_of_few_numbers(self):
        for many in range(4):
            for long in range(5):
                for thing in itertools.product(range(-1, 5), repeat=long):
                    self.assertIs(is_naming(many, thing), sorted(thing) == list(range(many)))


class NamingOf(Case):
    def test_lists_and_tuples(self):
        for thing in ([], (), [0], [1, 0], (1, 0), [2, 0, 1], list(MOST), MOST, list(LONG)):
            self.same(self.call(naming_of, thing), tuple(thing))

    def test_refused(self):
        for thing in ([0, 0], [1], (1,), [0, 2], [False], [True, False], (0, True), list(range(13)), tuple(range(13)),
                      {}, {0: 0}, "", "0", None, 0, True, [[0]], ["0"], [-1, 0], [10 ** 40], (None,)):
            self.refused(NoNaming, {}, naming_of, thing)

    def test_anything(self):
        told = [thing for good in ([1, 0], (2, 0, 1), []) for thing in variants(good, few_things())]
        for thing in things() + told:
            right = type(thing) in (list, tuple) and len(thing) <= 12 and oracle.is_naming(len(thing), tuple(thing))
            if right:
                self.same(self.call(naming_of, thing), tuple(thing))
            else:
                self.refused(NoNaming, {}, naming_of, thing)

    def test_later_changes_of_the_list_are_not_seen(self):
        handed = [1, 0]
        told = naming_of(handed)
        handed[0] = 5
        self.same(told, (1, 0))


class Deeds(Case):
    def test_stays(self):
        self.same(stays(0), ())
        self.same(stays(1), (0,))
        self.same(stays(3), (0, 1, 2))
        self.same(stays(12), MOST)

    def test_then(self):
        self.same(then((1, 2, 0), (1, 0, 2)), (0, 2, 1))
        self.same(then((1, 0, 2), (1, 2, 0)), (2, 1, 0))
        self.same(then((), ()), ())
        for one in itertools.permutations(range(4)):
            for other in itertools.permutations(range(4)):
                told = self.call(then, one, other)
                self.same(told, tuple(other[one[a]] for a in range(4)))

    def test_back(self):
        self.same(back(()), ())
        self.same(back((1, 2, 0)), (2, 0, 1))
        for naming in small_namings() + [LONG]:
            told = self.call(back, naming)
            self.assertTrue(all(told[naming[a]] == a for a in range(len(naming))))
            self.same(then(naming, told), stays(len(naming)))
            self.same(then(told, naming), stays(len(naming)))

    def test_rings(self):
        self.same(rings(()), [])
        self.same(rings((0,)), [])
        self.same(rings(MOST), [])
        self.same(rings((1, 0)), [(0, 1)])
        self.same(rings((2, 0, 1)), [(0, 2, 1)])
        self.same(rings((1, 2, 0)), [(0, 1, 2)])
        self.same(rings((0, 3, 2, 1)), [(1, 3)])
        self.same(rings((3, 2, 1, 0)), [(0, 3), (1, 2)])
        self.same(rings(LONG), [(0, 1, 2), (3, 4, 5, 6), (7, 8, 9, 10, 11)])
        self.same(rings(MOST[1:] + (0,)), [MOST])

    def test_rings_of_all_small_namings(self):
        for naming in small_namings():
            told = self.call(rings, naming)
            self.assertEqual(told, sorted(told))
            met = [corner for ring in told for corner in ring]
            self.assertEqual(sorted(met), [a for a in range(len(naming)) if naming[a] != a])
            for ring in told:
                self.assertIs(type(ring), tuple)
                self.assertEqual(ring[0], min(ring))
                self.assertEqual([naming[a] for a in ring], list(ring[1:] + ring[:1]))

    def test_rings_are_told_anew(self):
        for naming in (LONG, (1, 0), (0,), ()):
            self.told_anew(rings, naming)

    def test_order(self):
        for naming, order in (((), 1), ((0,), 1), (MOST, 1), ((1, 0), 2), ((1, 2, 0), 3), ((3, 2, 1, 0), 2),
                              (LONG, 60), (MOST[1:] + (0,), 12), ((1, 0, 3, 4, 2), 6), ((1, 2, 3, 0, 5, 4), 4)):
            self.same(self.call(order_of, naming), order)

    def test_order_of_all_small_namings(self):
        for naming in small_namings() + some_namings(7):
            order = order_of(naming)
            done = stays(len(naming))
            for _ in range(order - 1):
                done = tuple(naming[a] for a in done)
                self.assertNotEqual(done, stays(len(naming)))
            self.assertEqual(tuple(naming[a] for a in done), stays(len(naming)))


if __name__ == "__main__":
    unittest.main()
