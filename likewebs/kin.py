"""Kin: which of the webs that are kept by names are alike."""

from likewebs.seeking import between
from likewebs.spots import spot_of


def are_alike(spot, other):
    """Whether some naming fits two spots."""
    return between(spot, other)[0] == "naming"


def names_alike(webs, web):
    """The list of the names, sorted, of those of the webs that are alike to a web."""
    spot = spot_of(web, ())
    return [name for name in sorted(webs) if are_alike(spot, spot_of(webs[name], ()))]


def home_of(classes, spots, name):
    """The first of the classes to whose webs that of the name is alike, or None."""
    for names in classes:
        if are_alike(spots[name], spots[names[0]]):
            return names
    return None


def classes_of(webs):
    """The list of the classes of alike webs, each a list of names, sorted, by their first names."""
    spots = {name: spot_of(webs[name], ()) for name in webs}
    classes = []
    for name in sorted(webs):
        home = home_of(classes, spots, name)
        if home is None:
            classes.append([name])
        else:
            home.append(name)
    return classes
