"""Carrying: rows, twists and papers of no told by the new numbers of corners."""

from likewebs.namings import back, then


def carried_row(row, naming):
    """The row by new numbers."""
    return tuple([naming[corner] for corner in row])


def carried_twist(twist, naming):
    """The naming that sends the new number of a corner to the new number of where the twist sent it."""
    return then(then(back(naming), twist), naming)


def carried_kid(kid, naming, other_naming):
    """A kid of a paper of no by new numbers."""
    corner = other_naming[kid[0]]
    if kid[1] == "no":
        return (corner, "no", carried_no(kid[2], naming, other_naming))
    return (corner, "turned", other_naming[kid[2]], carried_twist(kid[3], other_naming))


def carried_no(paper, naming, other_naming):
    """A paper of no by new numbers: the one web's by the first naming, the other's by the second one."""
    if paper == ("unlike",):
        return paper
    kids = tuple([carried_kid(kid, naming, other_naming) for kid in paper[2]])
    return ("every", naming[paper[1]], kids)
