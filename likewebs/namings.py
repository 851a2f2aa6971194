"""Namings: new numbers for all corners of a web."""

from likewebs.errors import NoNaming
from likewebs.wholes import MOST, is_whole


def has_each_once(things):
    """Whether a list or tuple has each number from 0 to one less than its length just once."""
    # Only whole numbers are sorted: other things can't be, and a truth equals a number.
    return all([is_whole(thing) for thing in things]) and sorted(things) == list(range(len(things)))


def is_naming(many, thing):
    """Whether anything is a naming of so many corners."""
    return isinstance(thing, tuple) and len(thing) == many and has_each_once(thing)


def naming_of(thing):
    """The naming that a list or tuple tells; anything else is refused with NoNaming."""
    if not isinstance(thing, (list, tuple)) or len(thing) > MOST or not has_each_once(thing):
        raise NoNaming("that tells no naming")
    return tuple(thing)


def stays(many):
    """The naming of so many corners that changes nothing."""
    return tuple(range(many))


def then(first, second):
    """What comes of the first naming and then the second."""
    return tuple([second[corner] for corner in first])


def back(naming):
    """The naming that leads back."""
    return tuple([naming.index(corner) for corner in range(len(naming))])


def ring_from(naming, corner):
    """The corners to which a corner is sent, one after the other, until it comes back."""
    ring = [corner]
    while naming[ring[-1]] != corner:
        ring.append(naming[ring[-1]])
    return tuple(ring)


def rings(naming):
    """The list of the rings of two or more corners, each from its least corner on, sorted."""
    found = [ring_from(naming, corner) for corner in range(len(naming))]
    # Each ring was met once from each of its corners.
    return sorted([ring for ring in found if len(ring) > 1 and ring[0] == min(ring)])


def order_of(naming):
    """How often the naming is to be done until it sends each corner to itself."""
    order = 1
    done = naming
    while done != stays(len(naming)):
        done = then(done, naming)
        order += 1
    return order
