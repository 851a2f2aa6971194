"""A house: webs that are kept by names while they change."""

from likewebs.deeds import done, is_deed_row
from likewebs.errors import Busy, LikewebsError, NoDeed, Refused
from likewebs.forms import form_naming
from likewebs.grouping import group_of
from likewebs.groups import size
from likewebs.kin import classes_of, names_alike
from likewebs.names import check_known
from likewebs.webs import renamed
from likewebs.wholes import DIARY, KEPT, ONE, PLAIN


class House:
    """Webs by names, the deeds that change them, and a diary.

    A deed makes a new dict of the webs and leaves the one ahead of it as it was, so to take a deed back is to take up
    that one again.
    """

    def __init__(self):
        self.webs = {}
        # The webs ahead of each deed that can be taken back, and behind each that can be done anew, the next one last.
        self.past = []
        self.later = []
        self.going = False
        self.pages = []

    def put(self, name, web):
        """A web comes in by a new name."""
        return self.deed(("put", name, web))

    def drop(self, name):
        """A web goes out."""
        return self.deed(("drop", name))

    def twin(self, name, new):
        """A web comes in once more, by a new name."""
        return self.deed(("twin", name, new))

    def tie(self, name, a, b, *, mark=ONE):
        """A web is given an arrow."""
        return self.deed(("tie", name, a, b, mark))

    def untie(self, name, a, b):
        """A web is robbed of an arrow."""
        return self.deed(("untie", name, a, b))

    def enter(self, name, *, colour=PLAIN):
        """A web is given a corner, whose number is told."""
        return self.deed(("enter", name, colour))

    def leave(self, name, corner):
        """A web is robbed of a corner."""
        return self.deed(("leave", name, corner))

    def paint(self, name, corner, colour):
        """A corner of a web gets another colour."""
        return self.deed(("paint", name, corner, colour))

    def rename(self, name, naming):
        """The corners of a web are named anew."""
        return self.deed(("rename", name, naming))

    def back(self):
        """The deed done last is taken back."""
        return self.written("back", lambda: self.taken_back())

    def again(self):
        """The deed taken back last is done anew."""
        return self.written("again", lambda: self.done_anew())

    def several(self, rows):
        """Several deeds in one: the list of what they told."""
        return self.written("all", lambda: self.done_together(rows))

    def visit(self, visitor):
        """The list of what a function tells of each name and its web."""
        return self.written("visit", lambda: self.visited(visitor))

    def names(self):
        """The names, sorted."""
        return sorted(self.webs)

    def web(self, name):
        """The web of a name."""
        check_known(self.webs, name)
        return self.webs[name]

    def form(self, name):
        """The form of a name's web."""
        return renamed(self.web(name), self.naming(name))

    def naming(self, name):
        """A naming that leads a name's web to its form."""
        return form_naming(self.web(name))

    def twists(self, name):
        """How many twists a name's web has."""
        return size(group_of(self.web(name)))

    def alike(self, name):
        """The names, sorted, of all webs alike to that of a name."""
        return names_alike(self.webs, self.web(name))

    def find(self, web):
        """The names, sorted, of all webs alike to this one."""
        return names_alike(self.webs, web)

    def classes(self):
        """The names of webs that are alike, list by list, in the order of their first names."""
        return classes_of(self.webs)

    def busy(self):
        """Whether a visit goes on."""
        return self.going

    def diary(self):
        """The last rows of the diary."""
        return self.pages[-DIARY:]

    def check_open(self):
        """Refuses what can't be done while a visit goes on."""
        if self.going:
            raise Busy("a visit goes on")

    def written(self, word, deed):
        """What a deed tells, which stands in the diary between the two rows of its word."""
        granted = False
        self.pages = self.pages[-DIARY:] + [("in", word)]
        try:
            told = deed()
            granted = True
            return told
        finally:
            self.pages.append(("out", word, granted))

    def deed(self, row):
        """What the deed of a row tells, done by itself."""
        return self.written(row[0], lambda: self.done_alone(row))

    def done_alone(self, row):
        """Does the deed of a row and tells what it tells."""
        self.check_open()
        webs, told = done(self.webs, row)
        self.keep(webs)
        return told

    def keep(self, webs):
        """Takes up the webs as they are behind a new deed."""
        self.past = (self.past + [self.webs])[-KEPT:]
        self.later = []
        self.webs = webs

    def taken_back(self):
        """Takes up the webs as they were ahead of the deed done last."""
        self.check_open()
        if len(self.past) == 0:
            raise NoDeed("there is no deed to take back")
        self.later.append(self.webs)
        self.webs = self.past.pop()

    def done_anew(self):
        """Takes up the webs as they were behind the deed taken back last."""
        self.check_open()
        if len(self.later) == 0:
            raise NoDeed("there is no deed to do anew")
        self.past.append(self.webs)
        self.webs = self.later.pop()

    def done_together(self, rows):
        """Does the deeds of all rows, or none of them."""
        self.check_open()
        webs = self.webs
        told = []
        for at, row in enumerate(rows):
            webs, answer = self.done_within(webs, at, row)
            told.append(answer)
        self.keep(webs)
        return told

    def done_within(self, webs, at, row):
        """The webs behind one of several deeds, and what it tells; the house itself stays as it is."""
        if not is_deed_row(row):
            raise Refused(at)
        try:
            return self.written(row[0], lambda: done(webs, row))
        except LikewebsError:
            raise Refused(at) from None

    def visited(self, visitor):
        """Calls a function with each name and its web, while the house is busy."""
        self.check_open()
        self.going = True
        try:
            return [visitor(name, self.webs[name]) for name in self.names()]
        finally:
            self.going = False
