"""Changes of a web: each tells a new one."""

from likewebs.errors import Full, NoArrow, NoCorner, NoNumber
from likewebs.webs import Web, is_colour, is_corner, is_mark
from likewebs.wholes import MOST, ONE, PLAIN


def check_corner(web, thing):
    """Refuses anything that is no corner of the web."""
    if not is_corner(len(web), thing):
        raise NoCorner(thing)


def check_two_corners(web, a, b):
    """Refuses anything but two unlike corners of the web."""
    check_corner(web, a)
    check_corner(web, b)
    if a == b:
        raise NoCorner(b)


def check_colour(thing):
    """Refuses anything that is no colour."""
    if not is_colour(thing):
        raise NoNumber(thing)


def check_mark(thing):
    """Refuses anything that is no mark."""
    if not is_mark(thing):
        raise NoNumber(thing)


def other_arrows(web, a, b):
    """The list of all arrows but the one from a to b."""
    return [row for row in web.arrows if (row[0], row[1]) != (a, b)]


def with_arrow(web, a, b, *, mark=ONE):
    """The web with an arrow from a to b, in the place of one that is there."""
    check_two_corners(web, a, b)
    check_mark(mark)
    return Web(web.colours, other_arrows(web, a, b) + [(a, b, mark)])


def without_arrow(web, a, b):
    """The web without the arrow from a to b."""
    check_two_corners(web, a, b)
    if web.mark(a, b) == 0:
        raise NoArrow(a, b)
    return Web(web.colours, other_arrows(web, a, b))


def with_corner(web, *, colour=PLAIN):
    """The web with one more corner, the last one."""
    check_colour(colour)
    if len(web) == MOST:
        raise Full("there are as many corners as there can be")
    return Web(web.colours + (colour,), web.arrows)


def fallen(corner, gone):
    """The number of a corner behind the going of another one."""
    return corner - 1 if corner > gone else corner


def without_corner(web, corner):
    """The web without a corner and its arrows; the numbers above it fall by one."""
    check_corner(web, corner)
    colours = web.colours[:corner] + web.colours[corner + 1:]
    rows = [row for row in web.arrows if row[0] != corner and row[1] != corner]
    return Web(colours, [(fallen(a, corner), fallen(b, corner), mark) for a, b, mark in rows])


def painted(web, corner, colour):
    """The web with another colour of a corner."""
    check_corner(web, corner)
    check_colour(colour)
    return Web(web.colours[:corner] + (colour,) + web.colours[corner + 1:], web.arrows)
