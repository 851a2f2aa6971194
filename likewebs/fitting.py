"""Namings that lead a web with a row to another web with another row."""

from likewebs.carrying import carried_row
from likewebs.rows import check_row
from likewebs.webs import leads


def fits(web, row, other, other_row, thing):
    """Whether anything is a naming that leads the web to the other, and the row to the other row."""
    check_row(web, row)
    check_row(other, other_row)
    return leads(web, thing, other) and carried_row(row, thing) == other_row
