"""Rows: corners singled out one after the other, and what comes of it."""

from likewebs.errors import NoRow
from likewebs.refine import refined, root, telling
from likewebs.stands import cell_of
from likewebs.webs import is_corner


def is_row(web, thing):
    """Whether anything is a tuple of unlike corners of the web."""
    if not isinstance(thing, tuple) or not all([is_corner(len(web), corner) for corner in thing]):
        return False
    return len(set(thing)) == len(thing)


def check_row(web, thing):
    """Refuses anything that is no row of the web with NoRow."""
    if not is_row(web, thing):
        raise NoRow("that is no row of the web")


def singled(web, stand, corner):
    """The stand with a corner singled out, refined."""
    at = cell_of(stand, corner)
    rest = tuple([other for other in stand[at] if other != corner])
    cells = ((corner,), rest) if len(rest) > 0 else ((corner,),)
    return refined(web, stand[:at] + cells + stand[at + 1:])


def row_stand(web, row):
    """The root, out of which the row's corners are singled in their order."""
    check_row(web, row)
    stand = root(web)
    for corner in row:
        stand = singled(web, stand, corner)
    return stand


def told_in(web, stand, row):
    """The telling of a row whose stand is at hand."""
    return (telling(web, stand), tuple([cell_of(stand, corner) for corner in row]))


def row_telling(web, row):
    """The telling of the row's stand, and the numbers of the cells of its corners."""
    return told_in(web, row_stand(web, row), row)


def target(stand):
    """The number of the first cell with more than one corner, or -1."""
    for at, cell in enumerate(stand):
        if len(cell) > 1:
            return at
    return -1


def kids(web, row):
    """The list of the kept corners and that of the left ones, both rising."""
    stand = row_stand(web, row)
    at = target(stand)
    if at == -1:
        return ([], [])
    tellings = {corner: told_in(web, singled(web, stand, corner), row + (corner,)) for corner in stand[at]}
    least = min([tellings[corner] for corner in stand[at]])
    kept = [corner for corner in stand[at] if tellings[corner] == least]
    left = [corner for corner in stand[at] if tellings[corner] != least]
    return (kept, left)


def worth(web, row):
    """The tellings of the row's beginnings, from that of none to the row itself."""
    check_row(web, row)
    return tuple([row_telling(web, row[:many]) for many in range(len(row) + 1)])
