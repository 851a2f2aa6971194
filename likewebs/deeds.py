"""The deeds of a house.

Each is handed the webs by their names, a dict that it leaves as it is, and tells a tuple: the webs by their names
behind the deed, a new dict, and what the deed tells.
"""

from likewebs.changes import painted, with_arrow, with_corner, without_arrow, without_corner
from likewebs.errors import Full, NoWeb
from likewebs.names import check_known, check_new
from likewebs.webs import Web, renamed
from likewebs.wholes import HOUSE, ONE, PLAIN


def check_room(webs):
    """Refuses one more web where there are as many as a house can have."""
    if len(webs) == HOUSE:
        raise Full("there are as many webs as there can be")


def put(webs, name, web):
    """A web comes in by a new name."""
    check_new(webs, name)
    if not isinstance(web, Web):
        raise NoWeb(None)
    check_room(webs)
    return ({**webs, name: web}, None)


def drop(webs, name):
    """A web goes out."""
    check_known(webs, name)
    return ({other: webs[other] for other in webs if other != name}, None)


def twin(webs, name, new):
    """A web comes in once more, by a new name."""
    check_known(webs, name)
    check_new(webs, new)
    check_room(webs)
    return ({**webs, new: webs[name]}, None)


def tie(webs, name, a, b, mark=ONE):
    """A web is given an arrow."""
    check_known(webs, name)
    return ({**webs, name: with_arrow(webs[name], a, b, mark=mark)}, None)


def untie(webs, name, a, b):
    """A web is robbed of an arrow."""
    check_known(webs, name)
    return ({**webs, name: without_arrow(webs[name], a, b)}, None)


def enter(webs, name, colour=PLAIN):
    """A web is given a corner, whose number is told."""
    check_known(webs, name)
    return ({**webs, name: with_corner(webs[name], colour=colour)}, len(webs[name]))


def leave(webs, name, corner):
    """A web is robbed of a corner."""
    check_known(webs, name)
    return ({**webs, name: without_corner(webs[name], corner)}, None)


def paint(webs, name, corner, colour):
    """A corner of a web gets another colour."""
    check_known(webs, name)
    return ({**webs, name: painted(webs[name], corner, colour)}, None)


def rename(webs, name, naming):
    """The corners of a web are named anew."""
    check_known(webs, name)
    return ({**webs, name: renamed(webs[name], naming)}, None)


DEEDS = {
    "put": put, "drop": drop, "twin": twin, "tie": tie, "untie": untie, "enter": enter, "leave": leave,
    "paint": paint, "rename": rename,
}

# How many things, at least and at most, stand behind the word: a mark and the colour of a new corner may be left out.
TAKES = {
    "put": (2, 2), "drop": (1, 1), "twin": (2, 2), "tie": (3, 4), "untie": (3, 3), "enter": (1, 2), "leave": (2, 2),
    "paint": (3, 3), "rename": (2, 2),
}


def is_deed_row(thing):
    """Whether anything is a tuple of a deed's word and as many things as the deed takes."""
    if not isinstance(thing, tuple) or len(thing) == 0 or not isinstance(thing[0], str) or thing[0] not in TAKES:
        return False
    fewest, most = TAKES[thing[0]]
    return fewest <= len(thing) - 1 <= most


def done(webs, row):
    """What a row does: its deed, with the things behind its word."""
    deed = DEEDS[row[0]]
    handed = row[1:]
    return deed(webs, *handed)
