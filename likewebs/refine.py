"""Stands refined by rounds, and what a stand tells of its web."""

from likewebs.stands import by_colours, cell_of, look, parted


def next_stand(web, stand):
    """The stand behind one round: each cell parted by the looks of its corners."""
    looks = [look(web, stand, corner) for corner in range(len(web))]
    return tuple([group for cell in stand for group in parted(cell, looks)])


def rounds(web, stand):
    """The list of the stands from this one to the refined one, each once."""
    told = [stand]
    later = next_stand(web, stand)
    while later != told[-1]:
        told.append(later)
        later = next_stand(web, later)
    return told


def refined(web, stand):
    """The coarsest even stand that is finer than this one."""
    return rounds(web, stand)[-1]


def root(web):
    """The stand by colours, refined."""
    return refined(web, by_colours(web))


def first_unlike(one, other):
    """The first place at which two tuples differ."""
    return [x != y for x, y in zip(one, other)].index(True)


def apart(web, stand, a, b):
    """When two corners come apart: None, (0, -1), or the round and the cell that parts them."""
    stands = rounds(web, stand)
    parting = [at for at, told in enumerate(stands) if cell_of(told, a) != cell_of(told, b)]
    if len(parting) == 0:
        return None
    if parting[0] == 0:
        return (0, -1)
    ahead = stands[parting[0] - 1]
    return (parting[0], first_unlike(look(web, ahead, a), look(web, ahead, b)))


def cell_telling(web, stand, cell):
    """The least colour of a cell's corners, how many they are, and their least look."""
    colour = min([web.colours[corner] for corner in cell])
    return (colour, len(cell), min([look(web, stand, corner) for corner in cell]))


def telling(web, stand):
    """What a stand tells of its web, cell by cell."""
    return tuple([cell_telling(web, stand, cell) for cell in stand])
