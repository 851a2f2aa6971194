"""Stands: the corners of a web in cells, one behind the other."""

from likewebs.webs import is_corner


def is_cell(web, thing):
    """Whether anything is a tuple of one or more corners of the web, rising."""
    if not isinstance(thing, tuple) or len(thing) == 0:
        return False
    # Only corners are compared: other things can't be, and a truth equals a number.
    if not all([is_corner(len(web), corner) for corner in thing]):
        return False
    return all([a < b for a, b in zip(thing, thing[1:])])


def is_stand(web, thing):
    """Whether anything is a stand of the web."""
    if not isinstance(thing, tuple) or not all([is_cell(web, cell) for cell in thing]):
        return False
    return sorted([corner for cell in thing for corner in cell]) == list(range(len(web)))


def parted(cell, keys):
    """The list of the groups of a cell's corners with the same key, the keys rising.

    The key of a corner stands in keys at the corner.
    """
    told = sorted(set([keys[corner] for corner in cell]))
    return [tuple([corner for corner in cell if keys[corner] == key]) for key in told]


def by_colours(web):
    """The stand with a cell for each colour, the colours rising."""
    return tuple(parted(tuple(range(len(web))), web.colours))


def cell_of(stand, corner):
    """The number of a corner's cell."""
    return [corner in cell for cell in stand].index(True)


def pairs(web, corner, cell):
    """The pairs (mark from the corner, mark to the corner) of all other corners in a cell, sorted."""
    return tuple(sorted([web.ties[corner][other] for other in cell if other != corner]))


def look(web, stand, corner):
    """The look of a corner in a stand."""
    return tuple([pairs(web, corner, cell) for cell in stand])


def is_even(web, stand):
    """Whether all corners of each cell have the same look."""
    return all([look(web, stand, corner) == look(web, stand, cell[0]) for cell in stand for corner in cell])


def lies_within(cell, home):
    """Whether all corners of one cell are in another one."""
    return all([corner in home for corner in cell])


def finer(one, other):
    """Whether each cell of the one stand lies within a cell of the other."""
    return all([lies_within(cell, other[cell_of(other, cell[0])]) for cell in one])
