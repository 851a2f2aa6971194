"""A desk: a house that is spoken to in lines."""

from likewebs.errors import Busy
from likewebs.lines import answer_to, refusal
from likewebs.wholes import DIARY


class Desk:
    """A house, and a log of all that was said and answered."""

    def __init__(self, house):
        self.house = house
        self.going = False
        self.pages = []

    def say(self, line):
        """The answer to anything that is said."""
        return self.spoken(line, self.going)

    def script(self, lines, *, ear=None, stop=True):
        """The list of the answers to what is said, one after the other."""
        ended = False
        self.write(("begin",))
        try:
            told = self.gone_through(list(lines), ear, stop)
            ended = True
            return told
        finally:
            self.pages.append(("end", ended))

    def log(self):
        """The last rows of the log."""
        return self.pages[-DIARY:]

    def write(self, row):
        """Writes a row into the log."""
        self.pages = self.pages[-DIARY:] + [row]

    def spoken(self, line, closed):
        """The answer to anything that is said, written into the log; where the desk is closed nothing is done."""
        self.write(("in", line if isinstance(line, str) else None))
        told = refusal("busy") if closed else answer_to(self.house, line)
        self.write(("out", told))
        return told

    def gone_through(self, lines, ear, stop):
        """Goes through a script, while the desk is busy."""
        if self.going:
            raise Busy("a script goes on")
        self.going = True
        try:
            return self.answers(lines, ear, stop)
        finally:
            self.going = False

    def answers(self, lines, ear, stop):
        """The list of the answers, up to the first one that begins with no, where it stops there."""
        told = []
        for line in lines:
            told.append(self.spoken(line, False))
            if ear is not None:
                ear(line, told[-1])
            if stop is not False and told[-1].startswith("no"):
                break
        return told
