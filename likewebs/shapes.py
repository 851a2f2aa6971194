"""The shape that papers of no, covers and groups share: one kid for each corner of a cell."""

from likewebs.wholes import is_whole


def is_kid(words, thing):
    """Whether anything begins with a number and a word, and has as many things as the word asks for.

    The words are pairs of a word and how many things a kid with it has.
    """
    if not isinstance(thing, tuple) or len(thing) < 2:
        return False
    return is_whole(thing[0]) and (thing[1], len(thing)) in words


def are_kids(words, cell, thing):
    """Whether anything is a tuple with one kid for each corner of a cell, in any order."""
    if not isinstance(thing, tuple) or not all([is_kid(words, kid) for kid in thing]):
        return False
    return sorted([kid[0] for kid in thing]) == sorted(cell)
