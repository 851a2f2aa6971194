"""Texts read: each to the very thing whose text it is."""

from likewebs.errors import NoText, NoWeb
from likewebs.names import LETTERS, LONGEST
from likewebs.things import DEEP, text_of
from likewebs.webs import Web
from likewebs.wholes import GREATEST

FIGURES = "0123456789"


def run_end(text, at, signs, most):
    """The place behind the signs from a place on that are among these, at most so many."""
    end = at
    while end < len(text) and end < at + most and text[end] in signs:
        end += 1
    return end


def number_at(text, at):
    """The longest number from a place on that is no greater than GREATEST, and the place behind it."""
    # A nought ahead stands by itself.
    most = 1 if text[at] == "0" else len(str(GREATEST))
    end = run_end(text, at, FIGURES, most)
    if int(text[at:end]) > GREATEST:
        end -= 1
    return (int(text[at:end]), end)


def word_at(text, at):
    """The longest word from a place on, and the place behind it."""
    end = run_end(text, at, LETTERS, LONGEST)
    return (text[at:end], end)


def tuple_at(text, at, deep):
    """The tuple whose bracket stands at a place, with at most so many tuples within one another, and what is behind."""
    things = []
    end = at + 1
    if text[end:end + 1] == ")":
        return ((), end + 1)
    while True:
        thing, end = thing_at(text, end, deep - 1)
        things.append(thing)
        if text[end:end + 1] == ")":
            return (tuple(things), end + 1)
        if text[end:end + 1] != " ":
            raise NoText(end)
        end += 1


def thing_at(text, at, deep):
    """The thing that begins at a place, with at most so many tuples within one another, and the place behind it."""
    if at == len(text):
        raise NoText(at)
    if text[at] in FIGURES:
        return number_at(text, at)
    if text[at] in LETTERS:
        return word_at(text, at)
    if text[at] == "(" and deep > 0:
        return tuple_at(text, at, deep)
    raise NoText(at)


def read(text):
    """The thing of a text; anything else is refused with NoText."""
    if not isinstance(text, str):
        raise NoText(None)
    thing, end = thing_at(text, 0, DEEP)
    if end != len(text):
        raise NoText(end)
    return thing


def web_text(web):
    """The text of a web."""
    return text_of((web.colours, web.arrows))


def read_web(text):
    """The web of a text."""
    thing = read(text)
    if not isinstance(thing, tuple) or len(thing) != 2:
        raise NoWeb(None)
    return Web(thing[0], thing[1])
