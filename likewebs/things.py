"""Things: numbers, words and tuples of things, and their texts."""

from likewebs.errors import NoThing
from likewebs.names import is_name
from likewebs.wholes import GREATEST, is_between

DEEP = 60


def is_within(thing, deep):
    """Whether anything is a number, a word, or a tuple of such, with at most so many tuples within one another."""
    if isinstance(thing, tuple):
        return deep > 0 and all([is_within(part, deep - 1) for part in thing])
    # A word is of the same letters and as long as a name.
    return is_between(thing, 0, GREATEST) or is_name(thing)


def is_thing(thing):
    """Whether anything is a thing."""
    return is_within(thing, DEEP)


def written(thing):
    """The text of what is a thing."""
    if isinstance(thing, tuple):
        return "(" + " ".join([written(part) for part in thing]) + ")"
    return str(thing)


def text_of(thing):
    """The text of a thing; anything else is refused with NoThing."""
    if not is_thing(thing):
        raise NoThing("that is no thing")
    return written(thing)
