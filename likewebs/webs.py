"""Webs: corners with colours, and arrows with marks between them."""

from likewebs.errors import NoNaming, NoWeb
from likewebs.namings import back, is_naming
from likewebs.wholes import GREATEST, MOST, is_between


def is_colour(thing):
    """Whether anything is a colour."""
    return is_between(thing, 0, GREATEST)


def is_mark(thing):
    """Whether anything is the mark of an arrow."""
    return is_between(thing, 1, GREATEST)


def is_corner(many, thing):
    """Whether anything is one of so many corners."""
    return is_between(thing, 0, many - 1)


def are_colours(thing):
    """Whether anything is a list or tuple of the colours of a web."""
    return isinstance(thing, (list, tuple)) and len(thing) <= MOST and all([is_colour(colour) for colour in thing])


def is_arrow(many, thing):
    """Whether anything is by itself an arrow between two of so many corners."""
    if not isinstance(thing, (list, tuple)) or len(thing) != 3:
        return False
    start, end, mark = thing
    return is_corner(many, start) and is_corner(many, end) and start != end and is_mark(mark)


def marks_of(colours, arrows):
    """The marks by (from, to); what makes no web is refused with NoWeb."""
    if not are_colours(colours) or not isinstance(arrows, (list, tuple)):
        raise NoWeb(None)
    marks = {}
    for at, row in enumerate(arrows):
        if not is_arrow(len(colours), row) or (row[0], row[1]) in marks:
            raise NoWeb(at)
        marks[(row[0], row[1])] = row[2]
    return marks


def ties_of(many, marks):
    """For each two of so many corners a and b, at [a][b], the pair (mark from a to b, mark from b to a)."""
    corners = list(range(many))
    return tuple([tuple([(marks.get((a, b), 0), marks.get((b, a), 0)) for b in corners]) for a in corners])


class Web:
    """Corners with colours and arrows with marks; once made it never changes."""

    def __init__(self, colours, arrows=()):
        marks = marks_of(colours, arrows)
        self.colours = tuple(colours)
        self.arrows = tuple(sorted([tuple(row) for row in arrows]))
        # Looks ask for the pairs of two corners all the time, so they are kept.
        self.ties = ties_of(len(self.colours), marks)

    def mark(self, a, b):
        """The mark of the arrow from a to b, 0 where there is none."""
        return self.ties[a][b][0]

    def __eq__(self, other):
        return isinstance(other, Web) and self.colours == other.colours and self.arrows == other.arrows

    def __len__(self):
        return len(self.colours)

    def __str__(self):
        return f"{len(self.colours)} corners, {len(self.arrows)} arrows"

    def __repr__(self):
        return f"Web({self.colours}, {self.arrows})"


def renamed(web, naming):
    """The web renamed by a naming of its corners; anything else is refused with NoNaming."""
    if not is_naming(len(web), naming):
        raise NoNaming("that is no naming of the web's corners")
    colours = [web.colours[corner] for corner in back(naming)]
    arrows = [(naming[a], naming[b], mark) for a, b, mark in web.arrows]
    return Web(colours, arrows)


def leads(web, naming, other):
    """Whether anything is a naming by which the web becomes the other one."""
    return is_naming(len(web), naming) and renamed(web, naming) == other
