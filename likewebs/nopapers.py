"""Papers of no: they tell that no naming fits two webs with rows."""

from likewebs.fitting import fits
from likewebs.shapes import are_kids
from likewebs.spots import below, cell_at, spot_of, told_at
from likewebs.wholes import is_whole

# The words of kids, and how many things a kid with that word has.
WORDS = (("no", 3), ("turned", 4))


def is_every(cell, thing):
    """Whether anything has the shape of a paper about a corner of the cell and all kids."""
    if not isinstance(thing, tuple) or len(thing) != 3 or thing[0] != "every":
        return False
    # Only a number is looked for: a truth equals one.
    return is_whole(thing[1]) and thing[1] in cell


def is_right_other(here, other, ahead, kid):
    """Whether a kid tells rightly that no naming leads from here to its corner, singled out of the other spot."""
    if kid[1] == "no":
        return right_between(here, below(other, kid[0]), kid[2])
    if not is_whole(kid[2]) or kid[2] not in ahead:
        return False
    web, row = other[:2]
    return fits(web, row + (kid[2],), web, row + (kid[0],), kid[3])


def are_right_others(here, other, cell, thing):
    """Whether anything tells rightly, of each corner of the other spot's cell, that no naming leads from here to it."""
    if not are_kids(WORDS, cell, thing):
        return False
    corners = [kid[0] for kid in thing]
    return all([is_right_other(here, other, corners[:at], kid) for at, kid in enumerate(thing)])


def right_between(one, other, thing):
    """Whether anything is a right paper of no for two spots."""
    if told_at(one) != told_at(other):
        return thing == ("unlike",)
    if not is_every(cell_at(one), thing):
        return False
    return are_right_others(below(one, thing[1]), other, cell_at(other), thing[2])


def right_no(web, row, other, other_row, thing):
    """Whether anything is a right paper of no for the web with the row and the other web with the other row."""
    return right_between(spot_of(web, row), spot_of(other, other_row), thing)
