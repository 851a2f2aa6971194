"""Spots: tuples of a web, a row of it, the row's stand and its telling, so that none of these is made twice."""

from likewebs.rows import row_stand, singled, target, told_in


def spot_of(web, row):
    """The spot of a web and a row; anything that is no row is refused with NoRow."""
    stand = row_stand(web, row)
    return (web, row, stand, told_in(web, stand, row))


def below(spot, corner):
    """The spot of the row with a corner behind it."""
    web, row, stand, told = spot
    longer = row + (corner,)
    finer_stand = singled(web, stand, corner)
    return (web, longer, finer_stand, told_in(web, finer_stand, longer))


def told_at(spot):
    """The telling of a spot's row."""
    return spot[3]


def cell_at(spot):
    """The target cell of a spot's stand, () where there is none."""
    at = target(spot[2])
    return () if at == -1 else spot[2][at]
