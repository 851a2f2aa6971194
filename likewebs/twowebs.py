"""Two webs: answers whether they are alike, and all namings that lead from the one to the other."""

from likewebs.carrying import carried_no
from likewebs.covers import carried_cover, least
from likewebs.errors import NoCover, NoJoin, NoSuch, TooManyNamings
from likewebs.forms import cover_of
from likewebs.grouping import group_of
from likewebs.groups import members, size
from likewebs.namings import back, stays, then
from likewebs.nopapers import right_no
from likewebs.refine import next_stand, telling
from likewebs.seeking import fitting, sought
from likewebs.stands import by_colours
from likewebs.webs import leads
from likewebs.wholes import MOST, is_between

BY = "search"
MOST_TOLD = 1000

# The words by which an answer about unlike webs is asked for.
WORDS = ("early", "search", "forms")


def stand_after(web, rounds):
    """The stand by colours behind so many rounds."""
    stand = by_colours(web)
    for at in range(rounds):
        stand = next_stand(web, stand)
    return stand


def early(one, other):
    """The least number of rounds behind which the tellings of two webs' stands are unequal, or None."""
    stand, other_stand = by_colours(one), by_colours(other)
    for many in range(MOST + 1):
        if telling(one, stand) != telling(other, other_stand):
            return many
        stand, other_stand = next_stand(one, stand), next_stand(other, other_stand)
    return None


def is_right_early(one, other, thing):
    """Whether anything is a number of rounds that parts two webs."""
    if not is_between(thing, 0, MOST):
        return False
    return telling(one, stand_after(one, thing)) != telling(other, stand_after(other, thing))


def worth_told(web, thing):
    """The least worth that anything tells of a web where it is a right cover, else None."""
    try:
        return least(web, (), thing)[0]
    except NoCover:
        return None


def are_unlike(worth, other_worth):
    """Whether two webs have unequal least worths, both told by right covers."""
    return worth is not None and other_worth is not None and worth != other_worth


def is_answer(thing, word, many):
    """Whether anything is a tuple of a word and so many things behind it."""
    return isinstance(thing, tuple) and len(thing) == 1 + many and thing[0] == word


def right_answer(one, other, thing):
    """Whether anything is a right answer about two webs."""
    if is_answer(thing, "alike", 1):
        return leads(one, thing[1], other)
    if is_answer(thing, "early", 1):
        return is_right_early(one, other, thing[1])
    if is_answer(thing, "search", 1):
        return right_no(one, (), other, (), thing[1])
    if is_answer(thing, "forms", 2):
        return are_unlike(worth_told(one, thing[1]), worth_told(other, thing[2]))
    return False


def check_word(thing):
    """Refuses anything that is none of the words for an answer."""
    if thing not in WORDS:
        raise NoSuch(thing)


def answer(one, other, *, by=BY):
    """A right answer about two webs, by a word where they are not alike."""
    check_word(by)
    word, told = sought(one, (), other, ())
    if word == "naming":
        return ("alike", told)
    if by == "forms":
        return ("forms", cover_of(one), cover_of(other))
    rounds = early(one, other) if by == "early" else None
    return ("search", told) if rounds is None else ("early", rounds)


def carried_ahead(naming, told):
    """An answer about two and three as one about one and three, by the naming of one to two."""
    if told[0] == "alike":
        return ("alike", then(naming, told[1]))
    if told[0] == "search":
        # A paper that tells of corners is about two webs of as many.
        return ("search", carried_no(told[1], back(naming), stays(len(naming))))
    if told[0] == "forms":
        return ("forms", carried_cover(told[1], back(naming)), told[2])
    return told


def carried_behind(told, naming):
    """An answer about one and two, not by "alike", as one about one and three, by the naming of two to three."""
    if told[0] == "search":
        return ("search", carried_no(told[1], stays(len(naming)), naming))
    if told[0] == "forms":
        return ("forms", told[1], carried_cover(told[2], naming))
    return told


def joined(first, second):
    """The answer about one and three that comes of one about one and two and one about two and three."""
    if first[0] == "alike":
        return carried_ahead(first[1], second)
    if second[0] == "alike":
        return carried_behind(first, second[1])
    raise NoJoin("neither of both tells of webs that are alike")


def turned_about(one, other, told):
    """The answer about the other and the one that comes of a right one about the one and the other."""
    if told[0] == "alike":
        return ("alike", back(told[1]))
    if told[0] == "search":
        return answer(other, one, by="search")
    if told[0] == "forms":
        return ("forms", told[2], told[1])
    return told


def namings_many(one, other):
    """How many namings lead from the one web to the other."""
    if fitting(one, (), other, ()) is None:
        return 0
    return size(group_of(one))


def namings(one, other, *, most=MOST_TOLD):
    """All namings that lead from the one web to the other, sorted; more than most are refused with TooManyNamings."""
    naming = fitting(one, (), other, ())
    if naming is None:
        return ()
    group = group_of(one)
    if size(group) > most:
        raise TooManyNamings(size(group), most)
    return tuple(sorted([then(twist, naming) for twist in members(group)]))
