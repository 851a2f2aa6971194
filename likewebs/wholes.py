"""Whole numbers, and the bounds that the program keeps to."""

MOST = 12
GREATEST = 10 ** 9
ONE = 1
PLAIN = 0
FEW = 60
HOUSE = 40
KEPT = 20
DIARY = 30


def is_whole(thing):
    """Whether anything is a whole number; a truth is none."""
    return isinstance(thing, int) and not isinstance(thing, bool)


def is_between(thing, low, high):
    """Whether anything is a whole number from low to high."""
    return is_whole(thing) and low <= thing <= high
