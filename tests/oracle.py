"""The document's points once more, written in another way than in the program, to compare it with."""

import itertools
import re
from collections import Counter, namedtuple

MOST = 12
GREATEST = 10 ** 9


def whole(thing):
    return type(thing) is int


def within(thing, low, high):
    return whole(thing) and low <= thing <= high


def corner(many, thing):
    return within(thing, 0, many - 1)


# Stage 1

def is_naming(many, thing):
    return type(thing) is tuple and all(map(whole, thing)) and Counter(thing) == Counter(range(many))


def web_parts(colours, arrows):
    """("web", colours, arrows) or ("no", at)."""
    if type(colours) not in (list, tuple) or len(colours) > MOST:
        return ("no", None)
    for colour in colours:
        if not within(colour, 0, GREATEST):
            return ("no", None)
    if type(arrows) not in (list, tuple):
        return ("no", None)
    rows = []
    for at, row in enumerate(arrows):
        right = type(row) in (list, tuple) and len(row) == 3 and all(map(whole, row))
        right = right and corner(len(colours), row[0]) and corner(len(colours), row[1]) and row[0] != row[1]
        right = right and 0 < row[2] <= GREATEST
        if not right or any(row[0] == other[0] and row[1] == other[1] for other in rows):
            return ("no", at)
        rows.append((row[0], row[1], row[2]))
    rows.sort()
    return ("web", tuple(colours), tuple(rows))


def marks(web):
    told = {(a, b): 0 for a in range(len(web.colours)) for b in range(len(web.colours))}
    for a, b, mark in web.arrows:
        told[a, b] = mark
    return told


def renamed_parts(web, naming):
    colours = {naming[a]: colour for a, colour in enumerate(web.colours)}
    rows = sorted((naming[a], naming[b], mark) for a, b, mark in web.arrows)
    return (tuple(colours[a] for a in sorted(colours)), tuple(rows))


# Stage 2

def is_stand(many, thing):
    if type(thing) is not tuple:
        return False
    met = []
    for cell in thing:
        if type(cell) is not tuple or not cell or not all(corner(many, part) for part in cell):
            return False
        if list(cell) != sorted(cell):
            return False
        met.extend(cell)
    return len(met) == many and all(a in met for a in range(many))


def cells(stand):
    return {frozenset(cell) for cell in stand}


def finer(one, other):
    return all(any(set(cell) <= set(home) for home in other) for cell in one)


def look(web, stand, a):
    mark = marks(web)
    told = []
    for cell in stand:
        counts = Counter((mark[a, b], mark[b, a]) for b in cell if b != a)
        told.append(tuple(sorted(counts.elements())))
    return tuple(told)


def is_even(web, stand):
    return all(look(web, stand, a) == look(web, stand, b) for cell in stand for a in cell for b in cell)


def next_stand(web, stand):
    told = []
    for cell in stand:
        groups = {}
        for a in cell:
            groups.setdefault(look(web, stand, a), []).append(a)
        told += [tuple(sorted(groups[key])) for key in sorted(groups)]
    return tuple(told)


def rounds(web, stand):
    told = [stand]
    while not is_even(web, told[-1]):
        told.append(next_stand(web, told[-1]))
    return told


def refined(web, stand):
    return rounds(web, stand)[-1]


def by_colours(web):
    groups = {}
    for a, colour in enumerate(web.colours):
        groups.setdefault(colour, []).append(a)
    return tuple(tuple(groups[colour]) for colour in sorted(groups))


def place(stand, a):
    return next(at for at, cell in enumerate(stand) if a in cell)


def apart(web, stand, a, b):
    if place(stand, a) != place(stand, b):
        return (0, -1)
    ahead = stand
    for at, behind in enumerate(rounds(web, stand)[1:], start=1):
        if place(behind, a) != place(behind, b):
            one, other = look(web, ahead, a), look(web, ahead, b)
            return (at, min(k for k in range(len(ahead)) if one[k] != other[k]))
        ahead = behind
    return None


def telling(web, stand):
    told = []
    for cell in stand:
        looks = sorted(look(web, stand, a) for a in cell)
        told.append((sorted(web.colours[a] for a in cell)[0], len(cell), looks[0]))
    return tuple(told)


def log_step(web, stand, row):
    """The stand behind a row, or None where it isn't right."""
    if type(row) is not tuple or len(row) != 3 or type(row[2]) is not tuple or len(row[2]) != 2:
        return None
    cell, by, (out, into) = row
    if not all(map(whole, (cell, by, out, into))):
        return None
    if cell not in range(len(stand)) or by not in range(len(stand)):
        return None
    mark = marks(web)
    groups = {}
    for a in stand[cell]:
        count = sum(1 for b in stand[by] if b != a and mark[a, b] == out and mark[b, a] == into)
        groups.setdefault(count, []).append(a)
    if len(groups) == 1:
        return None
    return stand[:cell] + tuple(tuple(groups[count]) for count in sorted(groups)) + stand[cell + 1:]


def walk(web, stand, log):
    """("stand", stand) or ("no", at)."""
    if type(log) is not list:
        return ("no", None)
    for at, row in enumerate(log):
        stand = log_step(web, stand, row)
        if stand is None:
            return ("no", at)
    return ("stand", stand)


def right_rows(web, stand):
    """All right rows, rising."""
    mark = marks(web)
    met = sorted({(mark[a, b], mark[b, a]) for a in range(len(web.colours)) for b in range(len(web.colours))})
    numbers = range(len(stand))
    return [row for row in itertools.product(numbers, numbers, met) if log_step(web, stand, row) is not None]


def log_of(web, stand):
    log = []
    while right_rows(web, stand):
        log.append(right_rows(web, stand)[0])
        stand = log_step(web, stand, log[-1])
    return log


# Stage 3

def is_row(many, thing):
    if type(thing) is not tuple or not all(corner(many, part) for part in thing):
        return False
    return all(thing.count(part) == 1 for part in thing)


def once(deed):
    """The deed of a web and a row, worked out once only."""
    known = {}

    def told(web, row):
        key = (web.colours, web.arrows, row)
        if key not in known:
            known[key] = deed(web, row)
        return known[key]

    return told


def singled(web, stand, a):
    told = []
    for cell in stand:
        if a in cell:
            told.append((a,))
            told.append(tuple(b for b in cell if b != a))
        else:
            told.append(cell)
    return refined(web, tuple(cell for cell in told if cell))


@once
def row_stand(web, row):
    if not row:
        return refined(web, by_colours(web))
    return singled(web, row_stand(web, row[:-1]), row[-1])


@once
def row_telling(web, row):
    stand = row_stand(web, row)
    return (telling(web, stand), tuple(place(stand, a) for a in row))


def target(stand):
    return next((at for at, cell in enumerate(stand) if len(cell) != 1), -1)


@once
def kids(web, row):
    stand = row_stand(web, row)
    if target(stand) == -1:
        return ([], [])
    cell = stand[target(stand)]
    tellings = [row_telling(web, row + (x,)) for x in cell]
    kept = [x for x, told in zip(cell, tellings) if not any(other < told for other in tellings)]
    return (kept, [x for x in cell if x not in kept])


@once
def worth(web, row):
    told = ()
    for many in range(len(row) + 1):
        told += (row_telling(web, row[:many]),)
    return told


def is_leaf(web, row):
    if any(row[at] not in kids(web, row[:at])[0] for at in range(len(row))):
        return False
    return all(len(cell) == 1 for cell in row_stand(web, row))


# Pairs

def namings(web, row, other, other_row):
    """All namings that fit, rising, by trying all orders of the corners as far as nothing is wrong."""
    many = len(web.colours)
    if many != len(other.colours) or len(row) != len(other_row):
        return []
    mark, other_mark = marks(web), marks(other)
    wanted = dict(zip(row, other_row))
    told = [()]
    for a in range(many):
        longer = []
        for begun in told:
            for b in range(many):
                right = b not in begun and wanted.get(a, b) == b and web.colours[a] == other.colours[b]
                right = right and all(mark[a, c] == other_mark[b, begun[c]] for c in range(a))
                if right and all(mark[c, a] == other_mark[begun[c], b] for c in range(a)):
                    longer.append(begun + (b,))
        told = longer
    return told


def fits(web, row, other, other_row, thing):
    if not is_naming(len(web.colours), thing) or len(row) != len(other_row):
        return False
    if renamed_parts(web, thing) != (other.colours, other.arrows):
        return False
    return all(thing[a] == b for a, b in zip(row, other_row))


@once
def twists(web, row):
    return namings(web, row, web, row)


def right_no(web, row, other, other_row, thing):
    if type(thing) is not tuple or not thing or type(thing[0]) is not str:
        return False
    alike = row_telling(web, row) == row_telling(other, other_row)
    if len(thing) == 1:
        return thing[0] == "unlike" and not alike
    at = target(row_stand(web, row))
    if len(thing) != 3 or thing[0] != "every" or not alike or at == -1:
        return False
    if not whole(thing[1]) or thing[1] not in row_stand(web, row)[at]:
        return False
    cell = row_stand(other, other_row)[at]
    return right_others(web, row + (thing[1],), other, other_row, cell, thing[2])


def right_others(web, row, other, other_row, cell, thing):
    if type(thing) is not tuple:
        return False
    met = []
    for kid in thing:
        if type(kid) is not tuple or len(kid) not in (3, 4) or type(kid[1]) is not str:
            return False
        y = kid[0]
        if not whole(y) or y not in cell or y in met:
            return False
        if (kid[1], len(kid)) == ("no", 3):
            if not right_no(web, row, other, other_row + (y,), kid[2]):
                return False
        elif (kid[1], len(kid)) == ("turned", 4):
            if not whole(kid[2]) or kid[2] not in met:
                return False
            if not fits(other, other_row + (kid[2],), other, other_row + (y,), kid[3]):
                return False
        else:
            return False
        met.append(y)
    return len(met) == len(cell)


# Covers

def cover_told(web, row, thing):
    """(least worth, least row, size) of a right cover, None of anything else."""
    if type(thing) is not tuple or not thing or type(thing[0]) is not str:
        return None
    if target(row_stand(web, row)) == -1:
        return (worth(web, row), row, 1) if len(thing) == 1 and thing[0] == "leaf" else None
    if len(thing) != 2 or thing[0] != "branch" or type(thing[1]) is not tuple:
        return None
    kept, left = kids(web, row)
    words, below, turned = {}, {}, {}
    for kid in thing[1]:
        if type(kid) is not tuple or len(kid) < 2 or not whole(kid[0]) or type(kid[1]) is not str or kid[0] in words:
            return None
        x = kid[0]
        words[x] = kid[1]
        if (kid[1], len(kid)) == ("left", 2):
            right = x in left
        elif (kid[1], len(kid)) == ("down", 3):
            below[x] = cover_told(web, row + (x,), kid[2]) if x in kept else None
            right = below[x] is not None
        elif (kid[1], len(kid)) == ("turned", 4):
            turned[x] = kid[2]
            right = whole(kid[2]) and kid[2] in kept and x in kept
            right = right and fits(web, row + (kid[2],), web, row + (x,), kid[3])
        else:
            right = False
        if not right:
            return None
    if sorted(words) != sorted(kept + left) or any(words[z] != "down" for z in turned.values()):
        return None
    ranked = sorted((told[0], x) for x, told in below.items())
    if any(one[0] == other[0] for one, other in itertools.combinations(ranked, 2)):
        return None
    best = ranked[0][1]
    return below[best][:2] + (below[best][2] * (1 + list(turned.values()).count(best)),)


def least_worth(web, row):
    """The least worth of all leaves that begin with a good row."""
    kept = kids(web, row)[0]
    return min(least_worth(web, row + (x,)) for x in kept) if kept else worth(web, row)


# Groups

def right_group(web, row, thing):
    if type(thing) is not tuple or len(thing) != 3:
        return False
    many, twists_told, levels = thing
    if not whole(many) or many != len(web.colours) or type(twists_told) is not tuple or type(levels) is not tuple:
        return False
    if not all(fits(web, row, web, row, twist) for twist in twists_told):
        return False
    for level in levels:
        at = target(row_stand(web, row))
        if at == -1 or not right_level(web, row, row_stand(web, row)[at], twists_told, level):
            return False
        row += (level[0],)
    return target(row_stand(web, row)) == -1


def right_level(web, row, cell, twists_told, level):
    if type(level) is not tuple or len(level) != 3 or not whole(level[0]) or level[0] not in cell:
        return False
    ways = {level[0]: ()}
    if type(level[1]) is not tuple:
        return False
    for step in level[1]:
        if type(step) is not tuple or len(step) != 3 or not all(map(whole, step)):
            return False
        y, z, k = step
        if y not in cell or y in ways or z not in ways or k not in range(len(twists_told)):
            return False
        if not fits(web, row + (z,), web, row + (y,), twists_told[k]):
            return False
        ways[y] = ways[z] + (k,)
    rest = [y for y in cell if y not in ways]
    return right_others(web, row + (level[0],), web, row, rest, level[2])


def size(group):
    told = 1
    for _, reached, _ in group[2]:
        told *= len(reached) + 1
    return told


def made_of(many, some):
    """All namings that come of some namings, one behind the other in any number, rising."""
    told = {tuple(range(many))}
    new = list(told)
    while new:
        first = new.pop()
        for second in some:
            both = tuple(second[corner] for corner in first)
            if both not in told:
                told.add(both)
                new.append(both)
    return sorted(told)


def way(group, level, a):
    """The way to a corner at a level, None where there is none: from the corner back to the level's corner."""
    corner, reached, _ = group[2][level]
    told = ()
    while a != corner:
        steps = [step for step in reached if step[0] == a]
        if not steps:
            return None
        a, told = steps[0][1], (steps[0][2],) + told
    return told


def make(group, word):
    """The naming that a word makes, corner by corner."""
    told = []
    for a in range(group[0]):
        for k in word:
            a = group[1][k][a]
        told.append(a)
    return tuple(told)


def ways_of(group, thing):
    """("ways", a way for each level) of a twist, ("no", level) of anything else."""
    if not is_naming(group[0], thing):
        return ("no", -1)
    left = {a: b for a, b in enumerate(thing)}
    told = []
    for at, level in enumerate(group[2]):
        told.append(way(group, at, left[level[0]]))
        if told[-1] is None:
            return ("no", at)
        turned = make(group, told[-1])
        left = {a: turned.index(b) for a, b in left.items()}
    return ("no", len(told)) if any(a != b for a, b in left.items()) else ("ways", told)


def number(group, ways):
    """The number of a twist by its ways."""
    told = 0
    for (corner, reached, _), one in zip(group[2], ways):
        corners = [corner] + [y for y, _, _ in reached]
        told = told * len(corners) + corners.index(make(group, one)[corner])
    return told


def turns(web, row):
    return tuple(sorted({tuple(sorted({twist[a] for twist in twists(web, row)})) for a in range(len(web.colours))}))


# Things

def deep(thing):
    """How many tuples stand within one another in a thing, None where it is no thing."""
    if type(thing) is tuple:
        parts = [deep(part) for part in thing]
        return None if None in parts else 1 + max(parts, default=0)
    if type(thing) is str:
        return 0 if re.fullmatch("[a-z]{1,8}", thing, re.ASCII) else None
    return 0 if within(thing, 0, GREATEST) else None


def is_thing(thing):
    return deep(thing) is not None and deep(thing) <= 60


def text(thing):
    """The text of a thing, made of how Python shows it."""
    return repr(thing).replace(",)", ")").replace(", ", " ").replace("'", "")


# Texts

ATOM = re.compile("0|[1-9][0-9]{0,8}|1000000000|[a-z]{1,8}")


def is_text(text):
    """Whether a text is that of a thing: its innermost tuples are taken for numbers, again and again."""
    if re.search("[^0-9a-z() ]", text):
        return False
    told = re.sub("[0-9a-z]+", lambda met: "." if ATOM.fullmatch(met[0]) else "!", text)
    for _ in range(60):
        told = re.sub(r"\((\.( \.)*)?\)", ".", told)
    return told == "."


def begins(text):
    """Whether the text of some thing begins with a text: with the shortest end behind it it is one."""
    ahead = text.count("(") - text.count(")")
    return text == "" or ahead >= 0 and is_text(text + ("0" if text[-1] == " " else "") + ")" * ahead)


def longest(text):
    """How many signs the longest beginning of a text has with which the text of some thing begins."""
    return next(many for many in range(len(text), -1, -1) if begins(text[:many]))


# Two webs

def stand_after(web, many):
    stand = by_colours(web)
    for _ in range(many):
        stand = next_stand(web, stand)
    return stand


def parts_after(one, other, many):
    """Whether so many rounds part two webs."""
    return telling(one, stand_after(one, many)) != telling(other, stand_after(other, many))


def early(one, other):
    return next((many for many in range(13) if parts_after(one, other, many)), None)


def right_answer(one, other, thing):
    if type(thing) is not tuple or not thing or type(thing[0]) is not str:
        return False
    word, told = thing[0], thing[1:]
    if (word, len(told)) == ("alike", 1):
        return fits(one, (), other, (), told[0])
    if (word, len(told)) == ("early", 1):
        return within(told[0], 0, 12) and parts_after(one, other, told[0])
    if (word, len(told)) == ("search", 1):
        return right_no(one, (), other, (), told[0])
    if (word, len(told)) == ("forms", 2):
        covers = [cover_told(one, (), told[0]), cover_told(other, (), told[1])]
        return None not in covers and covers[0][0] != covers[1][0]
    return False


# Registers

Parts = namedtuple("Parts", "colours arrows")


def rising(thing, many):
    """Whether a thing is a tuple of tuples of so many things, each name above that of the one ahead."""
    if type(thing) is not tuple:
        return False
    last = ""
    for row in thing:
        if type(row) is not tuple or len(row) != many or type(row[0]) is not str or not row[0] > last:
            return False
        last = row[0]
    return True


def right_register(thing):
    if not is_thing(thing) or type(thing) is not tuple or len(thing) != 3:
        return False
    rows, classes, apart = thing
    if not rising(rows, 3) or len(rows) > 40 or not rising(classes, 2) or type(apart) is not tuple:
        return False
    if any(web_parts(colours, arrows) != ("web", colours, arrows) for _, colours, arrows in rows):
        return False
    webs = {name: Parts(colours, arrows) for name, colours, arrows in rows}
    met = Counter()
    for first, others in classes:
        if first not in webs or not rising(others, 2):
            return False
        met[first] += 1
        for name, naming in others:
            if name not in webs or not name > first or not fits(webs[name], (), webs[first], (), naming):
                return False
            met[name] += 1
    pairs = list(itertools.combinations([webs[row[0]] for row in classes], 2))
    if met != Counter(webs.keys()) or len(pairs) != len(apart):
        return False
    return all(told[:1] != ("alike",) and right_answer(one, other, told) if type(told) is tuple else False
               for (one, other), told in zip(pairs, apart))
