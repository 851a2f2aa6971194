"""The refusals, each directly under LikewebsError."""


class LikewebsError(ValueError):
    """Any refusal."""


class NoNaming(LikewebsError):
    """What was handed in is no naming."""


class NoWeb(LikewebsError):
    """Colours and arrows that make no web; at is None or the number of the first wrong row."""

    def __init__(self, at):
        super().__init__("these make no web")
        self.at = at


class NoArrow(LikewebsError):
    """There is no arrow from a to b."""

    def __init__(self, a, b):
        super().__init__("there is no such arrow")
        self.a = a
        self.b = b


class Full(LikewebsError):
    """There is no room for one more."""


class NoCorner(LikewebsError):
    """What was handed in is no corner that can stand there."""

    def __init__(self, corner):
        super().__init__("no such corner can stand there")
        self.corner = corner


class NoNumber(LikewebsError):
    """What was handed in is no mark or no colour."""

    def __init__(self, number):
        super().__init__("that is no such number")
        self.number = number


class NoStand(LikewebsError):
    """Another stand than one of single cells."""


class NoLog(LikewebsError):
    """No log; at is None or the number of the first wrong row."""

    def __init__(self, at):
        super().__init__("that is no log of the stand")
        self.at = at


class NoRow(LikewebsError):
    """What was handed in is no row of the web."""


class TooMany(LikewebsError):
    """There are more leaves than the bound."""

    def __init__(self, bound):
        super().__init__("there are more than the bound")
        self.bound = bound


class NotReached(LikewebsError):
    """No way leads to that corner at that level."""

    def __init__(self, level, corner):
        super().__init__("no way leads there")
        self.level = level
        self.corner = corner


class NoWord(LikewebsError):
    """What was handed in is no word of the group."""


class NoTwist(LikewebsError):
    """What was handed in is none of the group's twists."""

    def __init__(self, level):
        super().__init__("that is no twist of the group")
        self.level = level


class NoMember(LikewebsError):
    """No twist of the group has that number."""

    def __init__(self, number):
        super().__init__("no twist has that number")
        self.number = number


class NoCover(LikewebsError):
    """What was handed in is no right cover."""


class NoSuch(LikewebsError):
    """There is no such word for an answer."""

    def __init__(self, word):
        super().__init__("there is no such word")
        self.word = word


class NoJoin(LikewebsError):
    """Two answers that tell nothing together."""


class TooManyNamings(LikewebsError):
    """There are more namings than the bound."""

    def __init__(self, many, bound):
        super().__init__("there are more namings than the bound")
        self.many = many
        self.bound = bound


class NoName(LikewebsError):
    """No name, or the name of no web."""

    def __init__(self, name):
        super().__init__("no web has that name")
        self.name = name


class Taken(LikewebsError):
    """A web has that name."""

    def __init__(self, name):
        super().__init__("that name is taken")
        self.name = name


class NoDeed(LikewebsError):
    """There is no deed to take back or to do anew."""


class Refused(LikewebsError):
    """One of several deeds is refused; at is its number."""

    def __init__(self, at):
        super().__init__("one of the deeds is refused")
        self.at = at


class Busy(LikewebsError):
    """Something goes on that must end first."""


class NoThing(LikewebsError):
    """What was handed in is no thing."""


class NoText(LikewebsError):
    """No text of a thing; at is None or how many signs could begin one."""

    def __init__(self, at):
        super().__init__("that is no text of a thing")
        self.at = at


class NoRegister(LikewebsError):
    """What was handed in is nothing that a house can be made of."""
