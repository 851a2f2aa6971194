"""Right papers, covers and groups of every shape, made by trying all orders of the corners."""

from tests import oracle
from tests.common import chance


def pick(numbers, parts):
    return parts[next(numbers) % len(parts)]


def mixed(numbers, parts):
    """The parts in another order."""
    ranked = sorted((next(numbers), at) for at in range(len(parts)))
    return [parts[at] for _, at in ranked]


def a_cover(web, row, numbers):
    """A right cover of a web and a row."""
    kept, left = oracle.kids(web, row)
    if not kept:
        return ("leaf",)
    told = [(x, "left") for x in left]
    down = []
    for x in mixed(numbers, kept):
        twists = [twist for twist in oracle.twists(web, row) if twist.index(x) in down]
        if twists:
            twist = pick(numbers, twists)
            told.append((x, "turned", twist.index(x), twist))
        else:
            told.append((x, "down", a_cover(web, row + (x,), numbers)))
            down.append(x)
    return ("branch", tuple(mixed(numbers, told)))


def some_covers(web, row, many=3):
    """So many right covers of a web and a row."""
    return [a_cover(web, row, chance(seed)) for seed in range(many)]


def others_of(web, row, other, other_row, cell, numbers):
    """What is told of the corners of a cell to which no naming leads: as told of the kids of a paper of no."""
    told, met = [], []
    for y in mixed(numbers, cell):
        twists = [twist for twist in oracle.twists(other, other_row) if twist.index(y) in met]
        # Now and then it is gone into one that could be turned.
        if twists and next(numbers) % 4:
            twist = pick(numbers, twists)
            told.append((y, "turned", twist.index(y), twist))
        else:
            told.append((y, "no", a_paper(web, row, other, other_row + (y,), numbers)))
        met.append(y)
    return tuple(told)


def a_paper(web, row, other, other_row, numbers):
    """A right paper of no, where no naming fits."""
    if oracle.row_telling(web, row) != oracle.row_telling(other, other_row):
        return ("unlike",)
    at = oracle.target(oracle.row_stand(web, row))
    x = pick(numbers, oracle.row_stand(web, row)[at])
    cell = oracle.row_stand(other, other_row)[at]
    return ("every", x, others_of(web, row + (x,), other, other_row, cell, numbers))


def some_papers(web, row, other, other_row, many=3):
    """So many right papers of no."""
    return [a_paper(web, row, other, other_row, chance(seed)) for seed in range(many)]


def a_level(web, row, twists, numbers):
    """A right level of a web and a row that has a target cell; its twists are put into the list."""
    stand = oracle.row_stand(web, row)
    cell = stand[oracle.target(stand)]
    corner = pick(numbers, cell)
    met, reached = [corner], []
    known = oracle.twists(web, row)
    for y in mixed(numbers, sorted({twist[corner] for twist in known} - {corner})):
        z = pick(numbers, met)
        twists.append(pick(numbers, [twist for twist in known if twist[z] == y]))
        reached.append((y, z, len(twists) - 1))
        met.append(y)
    rest = [y for y in cell if y not in met]
    return (corner, tuple(reached), others_of(web, row + (corner,), web, row, rest, numbers))


def a_group(web, row, numbers):
    """A right group of a web and a row, with a few twists that nobody needs."""
    twists = [pick(numbers, oracle.twists(web, row)) for _ in range(next(numbers) % 3)]
    levels = []
    longer = row
    while oracle.target(oracle.row_stand(web, longer)) != -1:
        levels.append(a_level(web, longer, twists, numbers))
        longer += (levels[-1][0],)
    order = mixed(numbers, list(range(len(twists))))
    for at, (corner, reached, others) in enumerate(levels):
        levels[at] = (corner, tuple((y, z, order.index(k)) for y, z, k in reached), others)
    return (len(web), tuple(twists[k] for k in order), tuple(levels))


def some_groups(web, row, many=3):
    """So many right groups of a web and a row."""
    return [a_group(web, row, chance(seed)) for seed in range(many)]
