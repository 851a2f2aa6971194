"""Covers: papers that tell the least worth and the number of the twists of a web and a row."""

from likewebs.carrying import carried_twist
from likewebs.errors import NoCover
from likewebs.fitting import fits
from likewebs.rows import kids, worth
from likewebs.shapes import are_kids
from likewebs.wholes import is_whole

# The words of kids, and how many things a kid with that word has.
WORDS = (("left", 2), ("down", 3), ("turned", 4))


def is_branch(cell, thing):
    """Whether anything has the shape of a branch over a cell."""
    return isinstance(thing, tuple) and len(thing) == 2 and thing[0] == "branch" and are_kids(WORDS, cell, thing[1])


def corners_down(told):
    """The list of the corners of the kids that are down."""
    return [kid[0] for kid in told if kid[1] == "down"]


def is_right_kid(web, row, kept, down, kid):
    """Whether a kid is right, but for the cover of one that is down."""
    corner = kid[0]
    if kid[1] == "left":
        return corner not in kept
    if kid[1] == "down":
        return corner in kept
    # Only a number is looked for: a truth equals one.
    if not is_whole(kid[2]) or kid[2] not in down:
        return False
    return fits(web, row + (kid[2],), web, row + (corner,), kid[3])


def check_branch(web, row, kept, left, thing):
    """Refuses anything but a branch that is right, but for the covers of its kids."""
    if not is_branch(kept + left, thing):
        raise NoCover("that is no branch for the row's target cell")
    down = corners_down(thing[1])
    if not all([is_right_kid(web, row, kept, down, kid) for kid in thing[1]]):
        raise NoCover("a kid is not what its word tells")


def check_unlike(worths):
    """Refuses worths of which two are equal."""
    if any([worths.count(one) > 1 for one in worths]):
        raise NoCover("two kids that are down have the same least worth")


def least_below(web, row, told):
    """What the kids of a branch, right but for their covers, tell together."""
    below = {kid[0]: least(web, row + (kid[0],), kid[2]) for kid in told if kid[1] == "down"}
    check_unlike([below[corner][0] for corner in below])
    best = min(list(below), key=lambda corner: below[corner][0])
    turned = [kid for kid in told if kid[1] == "turned" and kid[2] == best]
    least_worth, least_row, size = below[best]
    return (least_worth, least_row, size * (1 + len(turned)))


def least(web, row, cover):
    """The least worth, the least row and the size that a right cover tells; anything else is refused with NoCover."""
    kept, left = kids(web, row)
    if len(kept) > 0:
        check_branch(web, row, kept, left, cover)
        return least_below(web, row, cover[1])
    if cover != ("leaf",):
        raise NoCover("a row without a target cell has a leaf alone")
    return (worth(web, row), row, 1)


def right_cover(web, row, thing):
    """Whether anything is a right cover of the web and the row."""
    try:
        least(web, row, thing)
    except NoCover:
        return False
    return True


def carried_kid(kid, naming):
    """A kid of a cover by new numbers."""
    corner = naming[kid[0]]
    if kid[1] == "left":
        return (corner, "left")
    if kid[1] == "down":
        return (corner, "down", carried_cover(kid[2], naming))
    return (corner, "turned", naming[kid[2]], carried_twist(kid[3], naming))


def carried_cover(cover, naming):
    """A cover by new numbers; kids stay in their order."""
    if cover == ("leaf",):
        return cover
    return ("branch", tuple([carried_kid(kid, naming) for kid in cover[1]]))
