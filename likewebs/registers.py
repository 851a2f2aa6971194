"""Registers: the webs of a house, which of them are alike, and papers for all of it."""

from likewebs.errors import NoRegister, NoWeb
from likewebs.forms import cover_of
from likewebs.house import House
from likewebs.names import is_name
from likewebs.seeking import fitting
from likewebs.things import is_thing
from likewebs.twowebs import BY, answer, are_unlike, check_word, is_answer, right_answer, worth_told
from likewebs.webs import Web, leads
from likewebs.wholes import HOUSE


def pairs_of(things):
    """The list of each two of some things, by their numbers."""
    return [(one, other) for at, one in enumerate(things) for other in things[at + 1:]]


def answers_apart(webs, by):
    """The tuple of the answers about each two of webs of which none are alike."""
    if by == "forms":
        # One cover of each web serves all its answers.
        return tuple([("forms", one, other) for one, other in pairs_of([cover_of(web) for web in webs])])
    return tuple([answer(one, other, by=by) for one, other in pairs_of(webs)])


def class_row(webs, names):
    """The row of a class: its first name, and each other one with a naming to the first one's web."""
    first = names[0]
    return (first, tuple([(name, fitting(webs[name], (), webs[first], ())) for name in names[1:]]))


def register_of(house, *, by=BY):
    """A right register of a house, its answers by a word."""
    check_word(by)
    webs = {name: house.web(name) for name in house.names()}
    classes = tuple([class_row(webs, names) for names in house.classes()])
    rows = tuple([(name, webs[name].colours, webs[name].arrows) for name in webs])
    return (rows, classes, answers_apart([webs[row[0]] for row in classes], by))


def is_row_of(thing, many):
    """Whether a thing is a tuple of so many things, the first of them a name."""
    return isinstance(thing, tuple) and len(thing) == many and is_name(thing[0])


def are_rising(thing, many):
    """Whether a thing is a tuple of tuples of so many things, rising by their names, none of them twice."""
    if not isinstance(thing, tuple) or not all([is_row_of(row, many) for row in thing]):
        return False
    return all([row[0] < later[0] for row, later in zip(thing, thing[1:])])


def is_web_row(row):
    """Whether the colours and the arrows behind a name are those of a web."""
    try:
        return Web(row[1], row[2]).arrows == row[2]
    except NoWeb:
        return False


def are_web_rows(thing):
    """Whether a thing is what a register tells of its webs."""
    return are_rising(thing, 3) and len(thing) <= HOUSE and all([is_web_row(row) for row in thing])


def is_class_row(webs, row):
    """Whether a row tells of a name that others are above it, with namings that lead to its web."""
    first, others = row
    if first not in webs or not are_rising(others, 2):
        return False
    if not all([name in webs and first < name for name, naming in others]):
        return False
    return all([leads(webs[name], naming, webs[first]) for name, naming in others])


def are_classes(webs, thing):
    """Whether a thing is what a register tells of the classes of its webs."""
    if not are_rising(thing, 2) or not all([is_class_row(webs, row) for row in thing]):
        return False
    return sorted([name for row in thing for name in [row[0]] + [pair[0] for pair in row[1]]]) == sorted(webs)


def worth_known(known, web, cover):
    """The least worth that a thing tells of a web, None where it is no right cover of it.

    The list known has the things that were told of this web ahead, each with its worth: one cover serves many answers.
    """
    for other, worth in known:
        if other == cover:
            return worth
    known.append((cover, worth_told(web, cover)))
    return known[-1][1]


def is_right_apart(one, other, thing):
    """Whether a thing is a right answer, not by "alike", about two webs, each handed in with what is known of it."""
    web, known = one
    other_web, other_known = other
    if is_answer(thing, "forms", 2):
        return are_unlike(worth_known(known, web, thing[1]), worth_known(other_known, other_web, thing[2]))
    return not is_answer(thing, "alike", 1) and right_answer(web, other_web, thing)


def are_apart(firsts, thing):
    """Whether a thing has a right answer, not by "alike", about each two of some webs."""
    pairs = pairs_of([(web, []) for web in firsts])
    if not isinstance(thing, tuple) or len(thing) != len(pairs):
        return False
    return all([is_right_apart(one, other, told) for (one, other), told in zip(pairs, thing)])


def right_register(thing):
    """Whether anything is a right register."""
    # Of things alone equal ones are the same: a truth, which equals a number, is none.
    if not is_thing(thing) or not isinstance(thing, tuple) or len(thing) != 3:
        return False
    rows, classes, apart = thing
    if not are_web_rows(rows):
        return False
    webs = {name: Web(colours, arrows) for name, colours, arrows in rows}
    return are_classes(webs, classes) and are_apart([webs[row[0]] for row in classes], apart)


def house_of(thing):
    """A new house into which the webs of a right register were put; anything else is refused with NoRegister."""
    if not right_register(thing):
        raise NoRegister("that is no right register")
    house = House()
    for name, colours, arrows in thing[0]:
        house.put(name, Web(colours, arrows))
    return house
