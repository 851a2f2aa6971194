"""Lines: what is said at a desk, and how it is answered."""

from likewebs.deeds import is_deed_row
from likewebs.errors import (
    Busy, Full, NoArrow, NoCorner, NoDeed, NoName, NoNaming, NoNumber, NoSuch, NoText, NoWeb, Refused, Taken,
)
from likewebs.registers import register_of
from likewebs.texts import read
from likewebs.things import text_of
from likewebs.twowebs import BY, answer, right_answer
from likewebs.webs import Web


def things_of(line):
    """The things of a line, a tuple whose first one is a word; of anything else None."""
    if not isinstance(line, str):
        return None
    try:
        things = read("(" + line + ")")
    except NoText:
        return None
    return things if len(things) > 0 and isinstance(things[0], str) else None


def made_web(colours, arrows=()):
    """The web of its parts, and None; or None, and the place at which they make no web."""
    try:
        return (Web(colours, arrows), None)
    except NoWeb as wrong:
        return (None, wrong.at)


def put(house, name, colours, arrows=()):
    """A web is put; the house, which is handed none where its parts make none, refuses it behind the name."""
    web, at = made_web(colours, arrows)
    try:
        return house.put(name, web)
    except NoWeb:
        raise NoWeb(at) from None


def row_of(thing):
    """The row of several deeds that a thing tells: that of put has a web, or None where its parts make none."""
    if not isinstance(thing, tuple) or len(thing) not in (3, 4) or thing[0] != "put":
        return thing
    parts = thing[2:]
    return ("put", thing[1], made_web(*parts)[0])


def several(house, *deeds):
    """Several deeds in one."""
    return house.several([row_of(deed) for deed in deeds])


def take_back(house):
    """The deed done last is taken back."""
    return house.back()


def do_anew(house):
    """The deed taken back last is done anew."""
    return house.again()


def names(house):
    """The names of all webs."""
    return house.names()


def classes(house):
    """The classes of alike webs."""
    return house.classes()


def web_of(house, name):
    """The web of a name."""
    return house.web(name)


def form_of(house, name):
    """The form of a name's web."""
    return house.form(name)


def naming_of(house, name):
    """A naming that leads a name's web to its form."""
    return house.naming(name)


def twists(house, name):
    """How many twists a name's web has."""
    return house.twists(name)


def alike(house, name):
    """The names of the webs alike to that of a name."""
    return house.alike(name)


def same(house, name, other, by=BY):
    """The answer about two webs."""
    one, two = house.web(name), house.web(other)
    return answer(one, two, by=by)


def judge(house, name, other, told):
    """Whether what is told is a right answer about two webs, as a number."""
    one, two = house.web(name), house.web(other)
    return 1 if right_answer(one, two, told) else 0


def told_register(house, by=BY):
    """The register of the house."""
    return register_of(house, by=by)


# Of all lines but those of the deeds other than put, which the house takes as they are.
LINES = {
    "put": put, "back": take_back, "again": do_anew, "all": several, "names": names, "classes": classes, "web": web_of,
    "form": form_of, "naming": naming_of, "twists": twists, "alike": alike, "same": same, "judge": judge,
    "register": told_register,
}

# How many things, at least and at most, stand behind the word; behind all as many as there are.
TAKES = {
    "put": (2, 3), "back": (0, 0), "again": (0, 0), "all": (0, 10 ** 9), "names": (0, 0), "classes": (0, 0),
    "web": (1, 1), "form": (1, 1), "naming": (1, 1), "twists": (1, 1), "alike": (1, 1), "same": (2, 3),
    "judge": (3, 3), "register": (0, 1),
}


def is_told(things):
    """Whether the word of a line is known, and has as many things behind it as it takes."""
    if things[0] not in TAKES:
        return is_deed_row(things)
    fewest, most = TAKES[things[0]]
    return fewest <= len(things) - 1 <= most


def told_by(house, things):
    """What the house tells to the things of a line."""
    if things[0] not in LINES:
        return house.deed(things)
    deed = LINES[things[0]]
    rest = things[1:]
    return deed(house, *rest)


def thing_told(told):
    """What is told, as a thing."""
    if told is None:
        return ()
    if isinstance(told, Web):
        return (told.colours, told.arrows)
    if isinstance(told, list):
        return tuple([thing_told(part) for part in told])
    return told


def refusal(word, *fields):
    """The answer by which something is refused: its word, and its fields."""
    return " ".join(["no", word] + ["none" if field is None else text_of(field) for field in fields])


def answered(house, things):
    """The answer to the things of a line."""
    try:
        return "yes " + text_of(thing_told(told_by(house, things)))
    except NoWeb as no_web:
        return refusal("noweb", no_web.at)
    except NoArrow as no_arrow:
        return refusal("noarrow", no_arrow.a, no_arrow.b)
    except NoCorner as no_corner:
        return refusal("nocorner", no_corner.corner)
    except NoNumber as no_number:
        return refusal("nonumber", no_number.number)
    except NoSuch as no_such:
        return refusal("nosuch", no_such.word)
    except NoName as no_name:
        return refusal("noname", no_name.name)
    except Taken as taken:
        return refusal("taken", taken.name)
    except Refused as refused:
        return refusal("refused", refused.at)
    except NoNaming:
        return refusal("nonaming")
    except Full:
        return refusal("full")
    except NoDeed:
        return refusal("nodeed")
    except Busy:
        return refusal("busy")


def answer_to(house, line):
    """The answer to anything that is said."""
    things = things_of(line)
    if things is None or not is_told(things):
        return refusal("line")
    return answered(house, things)
