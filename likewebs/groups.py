"""Groups asked: how many twists they have, and each twist by its word and by its number."""

from likewebs.carrying import carried_kid, carried_twist
from likewebs.errors import NoMember, NotReached, NoTwist, NoWord
from likewebs.grouping import steps_by
from likewebs.namings import back, is_naming, stays, then
from likewebs.wholes import is_between, is_whole


def size(group):
    """How many twists a group has."""
    told = 1
    for level in group[2]:
        told *= 1 + len(level[1])
    return told


def ways_at(level):
    """The ways of a level by their corners, in the order by which they are numbered."""
    ways = {level[0]: ()}
    for y, z, k in level[1]:
        ways[y] = ways[z] + (k,)
    return ways


def way(group, level, corner):
    """The way to a corner at a level."""
    # Only a number is looked for: a truth equals one, and other things may not be looked for at all.
    if not is_between(level, 0, len(group[2]) - 1) or not is_whole(corner):
        raise NotReached(level, corner)
    ways = ways_at(group[2][level])
    if corner not in ways:
        raise NotReached(level, corner)
    return ways[corner]


def is_word(group, thing):
    """Whether anything is a tuple of numbers of the group's twists."""
    return isinstance(thing, tuple) and all([is_between(k, 0, len(group[1]) - 1) for k in thing])


def made(group, word):
    """The naming that a word makes, the first twist done first."""
    if not is_word(group, word):
        raise NoWord("that is no word of the group")
    naming = stays(group[0])
    for k in word:
        naming = then(naming, group[1][k])
    return naming


def corners_met(group, thing):
    """The list of the corners to which what is left of a twist sends the corner of each level."""
    if not is_naming(group[0], thing):
        raise NoTwist(-1)
    left = thing
    met = []
    for at, level in enumerate(group[2]):
        ways = ways_at(level)
        corner = left[level[0]]
        if corner not in ways:
            raise NoTwist(at)
        left = then(left, back(made(group, ways[corner])))
        met.append(corner)
    if left != stays(group[0]):
        raise NoTwist(len(group[2]))
    return met


def word_of(group, thing):
    """The word of a twist, which makes it."""
    word = ()
    for level, corner in zip(group[2], corners_met(group, thing)):
        word = ways_at(level)[corner] + word
    return word


def number_of(group, thing):
    """The number of a twist."""
    number = 0
    for level, corner in zip(group[2], corners_met(group, thing)):
        corners = list(ways_at(level))
        number = number * len(corners) + corners.index(corner)
    return number


def turns_at(group, level):
    """The list of what the ways of a level make, in the order by which they are numbered."""
    ways = ways_at(level)
    return [made(group, ways[corner]) for corner in ways]


def member(group, number):
    """The twist of a number."""
    if not is_between(number, 0, size(group) - 1):
        raise NoMember(number)
    twist = stays(group[0])
    rest = number
    for level in reversed(group[2]):
        rest, at = divmod(rest, 1 + len(level[1]))
        twist = then(twist, turns_at(group, level)[at])
    return twist


def members(group):
    """The list of all twists of a group, by their numbers."""
    told = [stays(group[0])]
    for level in reversed(group[2]):
        turned = turns_at(group, level)
        told = [then(lower, twist) for twist in turned for lower in told]
    return told


def turn_of(group, corner):
    """The tuple of the corners to which twists send a corner, rising."""
    return tuple(sorted([corner] + [step[0] for step in steps_by(corner, group[1])]))


def turns(group):
    """The turns of a group, by their least corners."""
    return tuple(sorted(set([turn_of(group, corner) for corner in range(group[0])])))


def carried_level(level, naming):
    """A level by new numbers."""
    corner, reached, others = level
    steps = tuple([(naming[y], naming[z], k) for y, z, k in reached])
    return (naming[corner], steps, tuple([carried_kid(kid, naming, naming) for kid in others]))


def carried_group(group, naming):
    """A group by new numbers; all places and orders stay."""
    many, twists, levels = group
    new_twists = tuple([carried_twist(twist, naming) for twist in twists])
    return (many, new_twists, tuple([carried_level(level, naming) for level in levels]))
