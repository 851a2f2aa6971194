"""Leaves: good rows whose stands have single cells alone."""

from likewebs.errors import NoStand, TooMany
from likewebs.namings import back
from likewebs.rows import kids, row_stand, target
from likewebs.wholes import FEW


def naming_by(stand):
    """The naming by a stand of single cells: each corner gets its cell's number."""
    if target(stand) != -1:
        raise NoStand("a cell of that stand has more than one corner")
    return back(tuple([cell[0] for cell in stand]))


def gather(web, row, found, most):
    """Puts the leaves that begin with a good row into the list found, rising."""
    if target(row_stand(web, row)) == -1:
        if len(found) == most:
            raise TooMany(most)
        found.append(row)
    for corner in kids(web, row)[0]:
        gather(web, row + (corner,), found, most)


def leaves(web, *, most=FEW):
    """The list of the web's leaves, rising; more than most are refused with TooMany."""
    found = []
    gather(web, (), found, most)
    return found
