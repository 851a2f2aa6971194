"""A house told once more, in another way: as a line of all that it ever was, and a place in that line."""

from tests import oracle

FEWEST = {"put": 2, "drop": 1, "twin": 2, "tie": 3, "untie": 3, "enter": 1, "leave": 2, "paint": 3, "rename": 2}
MORE = {"tie": 1, "enter": 0}


class No(Exception):
    """A refusal: the name of its class, and its fields."""

    def __init__(self, kind, *fields):
        super().__init__(kind)
        self.told = ("no", kind) + fields


def outcome(deed, *handed, **named):
    """("yes", what is told) or ("no", the name of the refusal's class, its fields ..)."""
    try:
        return ("yes", deed(*handed, **named))
    except No as why:
        return why.told
    except ValueError as why:
        return ("no", type(why).__name__) + tuple(vars(why).values())


def is_name(thing):
    return type(thing) is str and 0 < len(thing) < 9 and all("a" <= sign <= "z" for sign in thing)


def is_deed_row(thing):
    if type(thing) is not tuple or not thing or type(thing[0]) is not str or thing[0] not in FEWEST:
        return False
    return len(thing) - 1 - FEWEST[thing[0]] in ((0, 1) if thing[0] in MORE else (0,))


def parts(web):
    """A web as its colours and its marks by from and to."""
    return (list(web.colours), {(a, b): mark for a, b, mark in web.arrows})


def look_at(right, kind, thing):
    if not right:
        raise No(kind, thing)


class Deeds:
    """What each deed does to a state, a dict of parts by names; each tells the new parts of the web, and what is told."""

    def tie(self, colours, marks, a, b, mark=1):
        self.corners(colours, a, b)
        look_at(oracle.within(mark, 1, 10 ** 9), "NoNumber", mark)
        return (colours, {**marks, (a, b): mark}), None

    def untie(self, colours, marks, a, b):
        self.corners(colours, a, b)
        if (a, b) not in marks:
            raise No("NoArrow", a, b)
        return (colours, {pair: mark for pair, mark in marks.items() if pair != (a, b)}), None

    def enter(self, colours, marks, colour=0):
        look_at(oracle.within(colour, 0, 10 ** 9), "NoNumber", colour)
        if len(colours) == 12:
            raise No("Full")
        return (colours + [colour], marks), len(colours)

    def leave(self, colours, marks, gone):
        look_at(oracle.corner(len(colours), gone), "NoCorner", gone)
        stay = [a for a in range(len(colours)) if a != gone]
        kept = {pair: mark for pair, mark in marks.items() if gone not in pair}
        return ([colours[a] for a in stay], {(stay.index(a), stay.index(b)): kept[a, b] for a, b in kept}), None

    def paint(self, colours, marks, a, colour):
        look_at(oracle.corner(len(colours), a), "NoCorner", a)
        look_at(oracle.within(colour, 0, 10 ** 9), "NoNumber", colour)
        return ([colour if a == b else old for b, old in enumerate(colours)], marks), None

    def rename(self, colours, marks, naming):
        if not oracle.is_naming(len(colours), naming):
            raise No("NoNaming")
        new = {naming[a]: colour for a, colour in enumerate(colours)}
        return ([new[a] for a in sorted(new)], {(naming[a], naming[b]): mark for (a, b), mark in marks.items()}), None

    def corners(self, colours, a, b):
        look_at(oracle.corner(len(colours), a), "NoCorner", a)
        look_at(oracle.corner(len(colours), b) and a != b, "NoCorner", b)


def changed(state, row):
    """The state behind a row, and what it tells."""
    word, name, *handed = row
    if word == "put":
        look_at(is_name(name), "NoName", name)
        look_at(name not in state, "Taken", name)
        look_at(type(handed[0]).__name__ == "Web", "NoWeb", None)
    else:
        look_at(is_name(name) and name in state, "NoName", name)
    if word == "twin":
        look_at(is_name(handed[0]), "NoName", handed[0])
        look_at(handed[0] not in state, "Taken", handed[0])
    if word in ("put", "twin") and len(state) == 40:
        raise No("Full")
    if word == "put":
        return {**state, name: parts(handed[0])}, None
    if word == "drop":
        return {other: state[other] for other in state if other != name}, None
    if word == "twin":
        return {**state, handed[0]: state[name]}, None
    told = getattr(Deeds(), word)(*state[name], *handed)
    return {**state, name: told[0]}, told[1]


class Model:
    def __init__(self):
        self.states, self.place, self.eldest = [{}], 0, 0
        self.rows = []
        self.shut = False

    def state(self):
        return self.states[self.place]

    def said(self, word, deed):
        self.rows.append(("in", word))
        right = False
        try:
            told = deed()
            right = True
        finally:
            self.rows.append(("out", word, right))
        return told

    def check(self):
        if self.shut:
            raise No("Busy")

    def new(self, state):
        self.states = self.states[:self.place + 1] + [state]
        self.place += 1
        self.eldest = max(self.eldest, self.place - 20)

    def deed(self, row):
        def one():
            self.check()
            state, told = changed(self.state(), row)
            self.new(state)
            return told

        return self.said(row[0], one)

    def step(self, word, by):
        def one():
            self.check()
            if not self.eldest <= self.place + by < len(self.states):
                raise No("NoDeed")
            self.place += by

        return self.said(word, one)

    def several(self, rows):
        def whole():
            self.check()
            state, told = self.state(), []
            for at, row in enumerate(rows):
                if not is_deed_row(row):
                    raise No("Refused", at)
                try:
                    state, answer = self.said(row[0], lambda: changed(state, row))
                except No:
                    raise No("Refused", at)
                told.append(answer)
            self.new(state)
            return told

        return self.said("all", whole)

    def visit(self, visitor):
        def whole():
            self.check()
            self.shut = True
            try:
                return [visitor(name, self.state()[name]) for name in sorted(self.state())]
            finally:
                self.shut = False

        return self.said("visit", whole)

    def diary(self):
        return self.rows[-30:]


def by_row(house, row):
    """What a house tells to a row, by the method of its word."""
    word, *handed = row
    if word in MORE and len(handed) > FEWEST[word]:
        return getattr(house, word)(*handed[:-1], **{"mark" if word == "tie" else "colour": handed[-1]})
    return getattr(house, word)(*handed)
