"""Groups: the twists of a web and a row, told by a few of them, level by level."""

from likewebs.fitting import fits
from likewebs.nopapers import are_right_others
from likewebs.seeking import told_of
from likewebs.spots import below, cell_at, spot_of
from likewebs.wholes import is_between, is_whole


def is_twist(web, row, thing):
    """Whether anything is a naming that leads the web to itself and each corner of the row to itself."""
    return fits(web, row, web, row, thing)


def is_step(thing):
    """Whether anything is a tuple of three whole numbers."""
    return isinstance(thing, tuple) and len(thing) == 3 and all([is_whole(number) for number in thing])


def is_right_step(here, twists, met, thing):
    """Whether anything is a step from one of the corners that are met to another one of the spot's target cell."""
    if not is_step(thing):
        return False
    y, z, k = thing
    if y not in cell_at(here) or y in met or z not in met or not is_between(k, 0, len(twists) - 1):
        return False
    return is_twist(here[0], here[1], twists[k]) and twists[k][z] == y


def are_right_steps(here, twists, corner, thing):
    """Whether anything is a tuple of right steps, the first of them from the level's corner."""
    if not isinstance(thing, tuple):
        return False
    met = [corner]
    for step in thing:
        if not is_right_step(here, twists, met, step):
            return False
        met.append(step[0])
    return True


def is_right_level(here, twists, thing):
    """Whether anything is a right level for a spot."""
    if not isinstance(thing, tuple) or len(thing) != 3:
        return False
    corner, reached, others = thing
    cell = cell_at(here)
    # Only a number is looked for: a truth equals one.
    if not is_whole(corner) or corner not in cell or not are_right_steps(here, twists, corner, reached):
        return False
    met = [corner] + [step[0] for step in reached]
    return are_right_others(below(here, corner), here, [y for y in cell if y not in met], others)


def are_right_levels(start, twists, thing):
    """Whether anything is a tuple of right levels, the first one for the start, down to where no target cell is."""
    if not isinstance(thing, tuple):
        return False
    here = start
    for level in thing:
        if not is_right_level(here, twists, level):
            return False
        here = below(here, level[0])
    return len(cell_at(here)) == 0


def right_group(web, row, thing):
    """Whether anything is a right group of the web and the row."""
    start = spot_of(web, row)
    if not isinstance(thing, tuple) or len(thing) != 3 or not isinstance(thing[1], tuple):
        return False
    many, twists, levels = thing
    if not is_whole(many) or many != len(web) or not all([is_twist(web, row, twist) for twist in twists]):
        return False
    return are_right_levels(start, twists, levels)


def steps_by(corner, twists):
    """The list of the steps by which twists reach other corners from this one, each corner once."""
    steps = []
    met = [corner]
    at = 0
    while at < len(met):
        for k, twist in enumerate(twists):
            y = twist[met[at]]
            if y not in met:
                met.append(y)
                steps.append((y, met[at], k))
        at += 1
    return steps


def level_of(here, start, twists):
    """The level of a spot, start being the spot below it; each new twist that it needs is put into the list twists."""
    corner = start[1][-1]
    steps = steps_by(corner, twists)
    others = []
    gone = []
    for y in cell_at(here):
        if y == corner or y in [step[0] for step in steps]:
            continue
        there = below(here, y)
        kid = told_of(start, gone, y, there)
        if kid[1] == "naming":
            twists.append(kid[2])
            steps = steps_by(corner, twists)
            continue
        if kid[1] == "no":
            gone.append((y, there))
        others.append(kid)
    return (corner, tuple(steps), tuple(others))


def way_down(web, row):
    """The list of spots from the row on, each with the first corner of the target cell of the one ahead behind it."""
    spots = [spot_of(web, row)]
    while len(cell_at(spots[-1])) > 0:
        spots.append(below(spots[-1], cell_at(spots[-1])[0]))
    return spots


def group_of(web, row=()):
    """A right group of the web and the row."""
    spots = way_down(web, row)
    twists = []
    levels = []
    # From the last level up: the twists of a lower level keep the rows of all above it, and serve there, too.
    for here, start in reversed(list(zip(spots, spots[1:]))):
        levels.append(level_of(here, start, twists))
    return (len(web), tuple(twists), tuple(levels[::-1]))
