"""Forms: one web for all webs that are alike."""

from likewebs.covers import least
from likewebs.leaves import naming_by
from likewebs.rows import kids, row_stand
from likewebs.seeking import fitting
from likewebs.webs import renamed


def kept_kid(web, row, down, corner):
    """What a cover tells of a kept corner: turned where a twist sends to it one that is down, else down."""
    for other in down:
        twist = fitting(web, row + (other,), web, row + (corner,))
        if twist is not None:
            return (corner, "turned", other, twist)
    return (corner, "down", cover_of(web, row + (corner,)))


def cover_of(web, row=()):
    """A right cover of the web and the row."""
    kept, left = kids(web, row)
    if len(kept) == 0:
        return ("leaf",)
    told = [(corner, "left") for corner in left]
    down = []
    for corner in kept:
        kid = kept_kid(web, row, down, corner)
        if kid[1] == "down":
            down.append(corner)
        told.append(kid)
    return ("branch", tuple(told))


def form_naming(web):
    """A naming that leads the web to its form."""
    least_row = least(web, (), cover_of(web))[1]
    return naming_by(row_stand(web, least_row))


def form(web):
    """The form of the web, the same one for all webs that are alike."""
    return renamed(web, form_naming(web))


def same_form(one, other):
    """Whether the forms of two webs are equal."""
    return form(one) == form(other)
