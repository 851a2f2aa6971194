"""Logs: a stand parted cell by cell, by the counts of pairs of marks."""

from likewebs.errors import NoLog
from likewebs.stands import pairs, parted
from likewebs.wholes import is_between, is_whole


def is_log_row(thing):
    """Whether anything is a tuple of two whole numbers and a tuple of two more."""
    if not isinstance(thing, tuple) or len(thing) != 3:
        return False
    cell, by, pair = thing
    if not isinstance(pair, tuple) or len(pair) != 2:
        return False
    return all([is_whole(number) for number in (cell, by, pair[0], pair[1])])


def groups_by(web, stand, row):
    """The list of the groups into which a row parts its cell, the lesser counts first."""
    cell, by, pair = row
    counts = {corner: pairs(web, corner, stand[by]).count(pair) for corner in stand[cell]}
    return parted(stand[cell], counts)


def is_right(web, stand, thing):
    """Whether anything is a row that parts a cell of the stand."""
    if not is_log_row(thing):
        return False
    last = len(stand) - 1
    if not is_between(thing[0], 0, last) or not is_between(thing[1], 0, last):
        return False
    return len(groups_by(web, stand, thing)) > 1


def stepped(web, stand, row):
    """The stand behind a right row."""
    at = row[0]
    return stand[:at] + tuple(groups_by(web, stand, row)) + stand[at + 1:]


def walked(web, stand, log):
    """The stand to which a log leads from this one on; any other thing is refused with NoLog."""
    if not isinstance(log, list):
        raise NoLog(None)
    told = stand
    for at, row in enumerate(log):
        if not is_right(web, told, row):
            raise NoLog(at)
        told = stepped(web, told, row)
    return told


def pairs_between(web, cell, by):
    """The list of the pairs that corners of one cell have with those of another, each once, rising."""
    return sorted(set([pair for corner in cell for pair in pairs(web, corner, by)]))


def least_row(web, stand):
    """The least row that is right, or None."""
    numbers = list(range(len(stand)))
    for cell in numbers:
        for by in numbers:
            # A pair that no corner has is counted 0 times by all, so it parts nothing.
            for pair in pairs_between(web, stand[cell], stand[by]):
                if is_right(web, stand, (cell, by, pair)):
                    return (cell, by, pair)
    return None


def log_of(web, stand):
    """The log of a stand: the least right row, again and again."""
    log = []
    told = stand
    row = least_row(web, told)
    while row is not None:
        log.append(row)
        told = stepped(web, told, row)
        row = least_row(web, told)
    return log
