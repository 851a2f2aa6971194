"""Seeking: of two webs with rows a naming that fits, or a paper of no."""

from likewebs.leaves import naming_by
from likewebs.namings import back, then
from likewebs.spots import below, cell_at, spot_of, told_at


def cell_to_cell(stand, other):
    """The naming that leads cell to cell, in order, between two stands of single cells."""
    return then(naming_by(stand), back(naming_by(other)))


def told_of(here, gone, corner, there):
    """What is told of a corner and its spot: a kid as in a paper of no, or (corner, "naming", naming) from here to it.

    In the list gone stand the corners that were gone into without a naming, each with its spot.
    """
    for other, spot in gone:
        word, told = between(spot, there)
        if word == "naming":
            return (corner, "turned", other, told)
    word, told = between(here, there)
    return (corner, word, told)


def through(corner, here, other):
    """What is told of the spot here, of which a corner was singled out last, and of each corner of the other's cell."""
    kids = []
    gone = []
    for y in cell_at(other):
        there = below(other, y)
        kid = told_of(here, gone, y, there)
        if kid[1] == "naming":
            return ("naming", kid[2])
        if kid[1] == "no":
            gone.append((y, there))
        kids.append(kid)
    return ("no", ("every", corner, tuple(kids)))


def between(one, other):
    """What is told of two spots: ("naming", naming) or ("no", paper)."""
    if told_at(one) != told_at(other):
        return ("no", ("unlike",))
    cell = cell_at(one)
    if len(cell) == 0:
        return ("naming", cell_to_cell(one[2], other[2]))
    return through(cell[0], below(one, cell[0]), other)


def sought(web, row, other, other_row):
    """A naming that fits, as ("naming", naming), or a right paper of no, as ("no", paper)."""
    return between(spot_of(web, row), spot_of(other, other_row))


def fitting(web, row, other, other_row):
    """A naming that fits, or None."""
    word, told = sought(web, row, other, other_row)
    return told if word == "naming" else None
