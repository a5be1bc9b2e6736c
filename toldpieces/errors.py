"""The refusals: each has the fields of which it is made, as they were handed in."""


class PieceError(ValueError):
    """What is handed in doesn't fit; over the refusals that are ValueErrors."""


class NoSecrets(PieceError):
    """No tuple of as many rests as the shape has secrets."""


class NoDice(PieceError):
    """Neither None nor a tuple of as many rests as the shape has dice."""


class NoGroup(PieceError):
    """No rising tuple of rests or of names."""


class NoLies(PieceError):
    """No rising tuple of lies, or too many of them."""


class NoRow(PieceError):
    """No row of as many rests as there are hidden numbers."""


class NoNumber(PieceError):
    """No rest."""

    def __init__(self, x):
        super().__init__("this is no rest")
        self.x = x


class Fallen(PieceError):
    """A house that lies fallen."""

    def __init__(self, x):
        super().__init__("this house lies fallen")
        self.x = x


class Standing(PieceError):
    """A house that stands."""

    def __init__(self, x):
        super().__init__("this house stands")
        self.x = x


class Taken(PieceError):
    """The number of a house that is there already."""

    def __init__(self, x):
        super().__init__("there is such a house already")
        self.x = x


class Few(PieceError):
    """Fewer houses than the least number that is needed."""

    def __init__(self, least):
        super().__init__("more houses are needed")
        self.least = least


class Full(PieceError):
    """As many houses, writes or spies as there may be."""


class NoName(PieceError):
    """No text of 1 to 8 small letters."""

    def __init__(self, name):
        super().__init__("this is no name")
        self.name = name


class NothingBack(PieceError):
    """No deed stands that could be undone."""


class Long(PieceError):
    """As many deeds stand as may."""


class Busy(PieceError):
    """A rehearsal is under way."""


class NoDeed(PieceError):
    """No deed at that number of those to be rehearsed; None: no list or tuple of deeds."""

    def __init__(self, number):
        super().__init__("this is no deed")
        self.number = number


class NoText(PieceError):
    """No text of a row or of a table."""


class NoHouse(LookupError):
    """No house of the store."""

    def __init__(self, x):
        super().__init__("there is no such house")
        self.x = x


class NoSpy(LookupError):
    """No spy of that name."""

    def __init__(self, name):
        super().__init__("there is no spy of this name")
        self.name = name


class NoWrite(LookupError):
    """No write of that number."""

    def __init__(self, number):
        super().__init__("there is no such write")
        self.number = number


class NoMoment(LookupError):
    """No moment of the store."""

    def __init__(self, at):
        super().__init__("there is no such moment")
        self.at = at
