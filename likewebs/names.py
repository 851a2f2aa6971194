"""Names: the texts by which a house keeps its webs."""

from likewebs.errors import NoName, Taken

LETTERS = "abcdefghijklmnopqrstuvwxyz"
LONGEST = 8


def is_name(thing):
    """Whether anything is a text of 1 to 8 small letters."""
    if not isinstance(thing, str) or not 1 <= len(thing) <= LONGEST:
        return False
    return all([sign in LETTERS for sign in thing])


def check_known(webs, thing):
    """Refuses anything that is no name of one of the webs."""
    if not is_name(thing) or thing not in webs:
        raise NoName(thing)


def check_new(webs, thing):
    """Refuses anything that is no name, and the name of one of the webs."""
    if not is_name(thing):
        raise NoName(thing)
    if thing in webs:
        raise Taken(thing)
