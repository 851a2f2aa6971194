"""What the tests share: exact comparing, things of every kind, and webs to try."""

import itertools
import os
import pathlib
import subprocess
import sys
import time
import unittest

from likewebs.webs import Web

ROOT = pathlib.Path(__file__).resolve().parent.parent
# What a few seconds are, on a slow machine too.
SECONDS = 10


def picture(thing):
    """A value that is equal for two things just where they are alike in kind and worth, down to the innermost."""
    if isinstance(thing, (list, tuple)):
        return (type(thing).__name__, [picture(part) for part in thing])
    if isinstance(thing, dict):
        return ("dict", [(picture(key), picture(thing[key])) for key in thing])
    if isinstance(thing, Web):
        return ("Web", picture(thing.colours), picture(thing.arrows))
    return (type(thing).__name__, thing)


class Case(unittest.TestCase):
    """A test case that compares kinds too, and looks whether what was handed in was changed."""

    maxDiff = None

    def same(self, told, wanted):
        self.assertEqual(picture(told), picture(wanted))

    def call(self, deed, *handed, **named):
        """What a deed tells, after a look at whether it changed what it was handed."""
        ahead = picture((handed, named))
        try:
            return deed(*handed, **named)
        finally:
            self.assertEqual(picture((handed, named)), ahead)

    def refused(self, kind, fields, deed, *handed, **named):
        """Sees a deed refused with just that class and, by identity or exact worth, those fields."""
        with self.assertRaises(kind) as caught:
            self.call(deed, *handed, **named)
        self.assertIs(type(caught.exception), kind)
        for field, wanted in fields.items():
            self.same(getattr(caught.exception, field), wanted)
            if not isinstance(wanted, int):
                self.assertIs(getattr(caught.exception, field), wanted)

    def told_anew(self, deed, *handed, **named):
        """Sees that a list is told anew each time, and that what is done to it changes nothing."""
        first = deed(*handed, **named)
        self.assertIs(type(first), list)
        kept = picture(first)
        second = deed(*handed, **named)
        self.assertIsNot(first, second)
        first.insert(0, "done to it")
        first[-1] = "done to it"
        self.assertEqual(picture(second), kept)
        self.assertEqual(picture(deed(*handed, **named)), kept)


def nested(kind, deep):
    thing = kind()
    for _ in range(deep - 1):
        thing = kind([thing])
    return thing


def few_things():
    """Some things of every kind, each made anew."""
    return [
        None, True, False, 0, 1, 2, -1, 10 ** 9 + 1, 10 ** 40, -10 ** 40, "", "0", "ab", [], (), {}, [0], (0,), (1, 0),
        {0: 1}, Web(()), Web((0, 0), ((0, 1, 1),)),
    ]


def things():
    """Many things of every kind, each made anew."""
    return few_things() + [
        3, 4, 11, 12, 13, -2, -12, 10 ** 9, 10 ** 9 - 1, "None", "True", "(0, 1)", "a" * 20000,
        [0, 1], (0, 1), [1, 0], (0, 0), (1, 1), (1, 2), (0, 2), (-1, 0), (0, -1), (0, 1, 2), [0, 1, 2], (2, 0, 1),
        (True,), [True], (False,), [False], (False, True), [False, True], (0, True), (0, False), (None,), [None],
        ("0",), ["0"], ("01",), [[]], ((),), [()], ([],), [[0]], ((0,),), ([0],), [(0,)], ((0, 1),), ((0,), (1,)),
        ((1,), (0,)), ((0, 1), (1,)), ((0,), (0,)), ((0, 1), ()), ((1, 0),), ([0], [1]), [(0,), (1,)],
        (((0,),), ((1,),)), ((0, 1), (2,)), ((0, 0, (0, 0)),), [(0, 0, (0, 0))], [(0, 0, (0, 1))], [[0, 0, [0, 0]]],
        {"a": [1, (2,)]}, {None: None}, {(0, 1): 1}, {0: 0, 1: 1}, [{}], ({},), ({0: 0},),
        Web((0,)), Web((0,) * 12), (Web(()),), [Web((0,))], (Web((0, 0)), Web((0, 0))), [[Web(())]],
        nested(list, 80), nested(tuple, 80), list(range(1000)), tuple(range(1000)), [0] * 1000, (0,) * 1000,
        list(range(12)), tuple(range(12)), list(range(13)), tuple(range(13)), [(0, 1, 1)] * 1000,
    ]


def variants(thing, odd):
    """The things that come where one part, at any depth, is another thing, is left out, doubled or of another kind."""
    yield from odd
    if not isinstance(thing, (list, tuple)):
        return
    kind = type(thing)
    yield list(thing) if kind is tuple else tuple(thing)
    yield {at: part for at, part in enumerate(thing)}
    for at, part in enumerate(thing):
        yield kind(thing[:at] + thing[at + 1:])
        yield kind(thing[:at] + kind([part]) + thing[at:])
        for other in variants(part, odd):
            yield kind(thing[:at] + kind([other]) + thing[at + 1:])


def chance(seed):
    """A row of numbers that looks like chance and is the same each time."""
    state = seed * 7919 + 12345
    while True:
        state = (state * 6364136223846793005 + 1442695040888963407) % 2 ** 64
        yield state >> 33


def some_web(many, seed, *, colours=2, marks=2, blanks=2):
    """A web of so many corners; of marks + blanks numbers as many as blanks make no arrow."""
    numbers = chance(seed)
    rows = []
    for a, b in itertools.permutations(range(many), 2):
        mark = next(numbers) % (marks + blanks)
        if mark < marks:
            rows.append((a, b, mark + 1))
    return Web([next(numbers) % colours for _ in range(many)], rows)


def all_webs(many, marks, colours):
    """All webs of so many corners with marks from 0 to marks and colours below colours."""
    places = list(itertools.permutations(range(many), 2))
    for painted in itertools.product(range(colours), repeat=many):
        for told in itertools.product(range(marks + 1), repeat=len(places)):
            yield Web(painted, [(a, b, mark) for (a, b), mark in zip(places, told) if mark])


def ring(many):
    return Web((0,) * many, [(a, (a + 1) % many, 1) for a in range(many)])


def chain(many):
    return Web((0,) * many, [(a, a + 1, 1) for a in range(many - 1)])


def bare(many):
    return Web((0,) * many)


def full(many):
    return Web((0,) * many, [(a, b, 1) for a, b in itertools.permutations(range(many), 2)])


def edge_webs():
    """Webs of 0, 1, few and MOST corners, without arrows, with some and with all of them."""
    told = [Web(()), Web((7,)), chain(2), full(2), Web((1, 0)), Web((0, 5), ((1, 0, 7),)), ring(3), chain(3)]
    told += [bare(4), full(4), ring(4), chain(5), bare(12), full(12), ring(12), chain(12)]
    told += [some_web(12, 1), some_web(12, 2, colours=1, marks=1, blanks=6), some_web(7, 3), some_web(6, 4, colours=1)]
    told.append(Web((10 ** 9, 0, 10 ** 9, 0), ((0, 1, 10 ** 9), (2, 3, 10 ** 9), (1, 2, 1))))
    # Two rings of three and a ring of six: of one look, but not alike.
    told.append(Web((0,) * 6, [(a, b, 1) for a in range(6) for b in range(6) if a // 3 == b // 3 and a != b]))
    told.append(Web((0,) * 6, [(a, (a + step) % 6, 1) for a in range(6) for step in (1, 5)]))
    return told


def small_webs():
    """Webs of at most four corners: all small ones with few marks, and some others."""
    told = [web for many in range(3) for web in all_webs(many, 2, 2)]
    told += list(all_webs(3, 1, 2))
    told += [some_web(4, seed, colours=1 + seed % 2, marks=1 + seed % 3, blanks=1 + seed % 4) for seed in range(24)]
    told += [bare(4), full(4), ring(4), chain(4), Web((0,) * 4, [(0, 1, 1), (1, 0, 1), (2, 3, 1), (3, 2, 1)])]
    return told


def all_stands(many):
    """All stands of so many corners."""
    if many == 0:
        return [()]
    told = []
    for stand in all_stands(many - 1):
        last = (many - 1,)
        for at, cell in enumerate(stand):
            told.append(stand[:at] + (cell + last,) + stand[at + 1:])
        for at in range(len(stand) + 1):
            told.append(stand[:at] + (last,) + stand[at:])
    return told


def some_stands(web):
    """Stands of a web: one cell, single cells both ways, and two cells in several ways."""
    many = len(web)
    if many == 0:
        return [()]
    corners = tuple(range(many))
    told = [(corners,), tuple((a,) for a in corners), tuple((a,) for a in corners[::-1])]
    for step in (2, 3):
        cells = [tuple(a for a in corners if a % step == part) for part in range(step)]
        told.append(tuple(cell for cell in cells[::-1] if cell))
    told.append(tuple(cell for cell in (corners[many // 2:], corners[:many // 2]) if cell))
    return told


def some_namings(many):
    """Namings of so many corners: all of few, some of many."""
    if many <= 3:
        return list(itertools.permutations(range(many)))
    corners = tuple(range(many))
    told = [corners, corners[::-1], corners[1:] + corners[:1], (1, 0) + corners[2:]]
    numbers = chance(many)
    told.append(tuple(sorted(corners, key=lambda corner: next(numbers))))
    return told


def new_stand(stand, naming):
    """A stand by new numbers."""
    return tuple(tuple(sorted(naming[corner] for corner in cell)) for cell in stand)


def all_rows(many):
    """All rows of a web of so many corners, rising."""
    return sorted(row for long in range(many + 1) for row in itertools.permutations(range(many), long))


def wheel(steps, many=5):
    """Corners in a ring, each with an arrow so many places on, by that mark, for each of the steps."""
    return Web((0,) * many, [(a, (a + step) % many, mark) for a in range(many) for mark, step in steps.items()])


def beside(*webs):
    """Webs side by side."""
    colours, rows = (), []
    for web in webs:
        rows += [(len(colours) + a, len(colours) + b, mark) for a, b, mark in web.arrows]
        colours += web.colours
    return Web(colours, rows)


def around(one, other, colour=0):
    """Two corners, each with arrows to all corners of one of two webs, which have that colour."""
    told = beside(bare(2), one, other)
    many = 2 + len(one)
    rows = [(0, a, 1) for a in range(2, many)] + [(1, a, 1) for a in range(many, len(told))]
    return Web((0, 0) + (colour,) * (len(told) - 2), list(told.arrows) + rows)


def signed(crossed):
    """Four corners, each with arrows to two of its own; of each two such pairs each corner is tied to one of the other.

    The pairs in crossed are tied crosswise. Corners singled out of the first four tell the same, whatever is crossed.
    """
    rows = [(x, 4 + 2 * x + side, 1) for x in range(4) for side in range(2)]
    for x, y in itertools.combinations(range(4), 2):
        for side in range(2):
            a, b = 4 + 2 * x + side, 4 + 2 * y + (side + ((x, y) in crossed)) % 2
            rows += [(a, b, 1), (b, a, 1)]
    return Web((0,) * 4 + (1,) * 8, rows)


def frucht():
    """Twelve corners with three neighbours each, of which no two are alike: Frucht's web."""
    steps = (-5, -2, -4, 2, 5, -2, 2, 5, -2, -5, 4, 2)
    ties = {(a, (a + step) % 12) for a, step in enumerate(steps)} | {(a, (a + 1) % 12) for a in range(12)}
    return Web((0,) * 12, sorted({(a, b, 1) for a, b in ties} | {(b, a, 1) for a, b in ties}))


# Of one look, but not alike.
WHEEL, OTHER_WHEEL = wheel({1: 1, 2: 2}), wheel({1: 1, 2: 3})
TRIANGLES, HEXAGON = beside(full(3), full(3)), wheel({1: 1, 2: 5}, many=6)
HEXAGON = Web(HEXAGON.colours, [(a, b, 1) for a, b, mark in HEXAGON.arrows])


def unlike_pairs():
    """Pairs of webs that are not alike, but whose roots tell the same."""
    told = [(WHEEL, OTHER_WHEEL), (TRIANGLES, HEXAGON), (beside(ring(3), ring(3)), ring(6))]
    told += [(beside(bare(2), WHEEL), beside(bare(2), OTHER_WHEEL)), (beside(ring(3), ring(4)), ring(7))]
    told += [(beside(WHEEL, WHEEL), beside(WHEEL, OTHER_WHEEL))]
    told += [(around(WHEEL, WHEEL), around(WHEEL, OTHER_WHEEL))]
    told += [(around(WHEEL, WHEEL, 1), around(OTHER_WHEEL, WHEEL, 1))]
    told += [(signed([]), signed([(0, 1)])), (signed([(0, 1)]), signed([(0, 1), (2, 3)]))]
    return told


def knotty_webs():
    """Webs with cells whose corners twists do not all send to one another, and with many twists."""
    told = [beside(ring(3), ring(4)), WHEEL, TRIANGLES, beside(full(3), HEXAGON), beside(ring(3), ring(3))]
    told += [around(WHEEL, OTHER_WHEEL), around(WHEEL, WHEEL), beside(WHEEL, OTHER_WHEEL), beside(chain(2), chain(2))]
    told += [beside(ring(3), ring(4), bare(2)), beside(full(2), full(2), full(2)), around(ring(5), ring(5))]
    # Its first two corners tell the same, singled out, but no twist sends them to one another.
    told += [around(WHEEL, OTHER_WHEEL, 1), around(ring(5), ring(5), 1)]
    # Of its first four corners, which tell the same, twists send each to just one other.
    told += [signed([(0, 1)]), signed([]), frucht()]
    return told


def some_rows(many):
    """Some rows of so many corners: of none, of one, of two both ways, of all."""
    corners = tuple(range(many))
    return sorted({(), corners[:1], corners[-1:], corners[:2], corners[:2][::-1], corners[::3], corners})


def great_webs():
    """Webs of twelve corners that have many twists, no two of them alike."""
    told = [bare(12), full(12), ring(12), around(ring(5), ring(5)), around(ring(5), ring(5), 1)]
    told += [wheel({1: 1, 2: 11}, many=12), beside(*[full(2)] * 6), beside(*[ring(3)] * 4), beside(full(6), full(6))]
    told += [beside(*[full(4)] * 3), beside(*[chain(3)] * 4), beside(bare(6), ring(6)), signed([]), frucht()]
    return told


def in_time(case, deed, *handed, **named):
    """What a deed tells, which must be told in a few seconds."""
    start = time.perf_counter()
    told = deed(*handed, **named)
    case.assertLess(time.perf_counter() - start, SECONDS)
    return told


def told_elsewhere(*lines):
    """What two runs of other Pythons print of a few lines, in which texts are hashed unlike."""
    text = "\n".join(("from tests.common import *",) + lines)
    told = []
    for seed in ("1", "2"):
        around_it = dict(os.environ, PYTHONHASHSEED=seed, PYTHONDONTWRITEBYTECODE="1")
        told.append(subprocess.run(
            [sys.executable, "-c", text], cwd=ROOT, env=around_it, check=True, capture_output=True, text=True,
        ).stdout)
    return told
