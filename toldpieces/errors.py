"""The refusals: each has the fields of which it is made, as they were handed in, and as its word the class name."""


class PieceError(ValueError):
    """What is handed in doesn't fit; over the refusals that are ValueErrors."""


class NoSecrets(PieceError):
    """No tuple of as many rests as the shape has secrets."""

    def __init__(self):
        super().__init__("these are no secrets of the shape")
        self.word = "NoSecrets"


class NoDice(PieceError):
    """Neither None nor a tuple of as many rests as the shape has dice."""

    def __init__(self):
        super().__init__("these are no dice of the shape")
        self.word = "NoDice"


class NoGroup(PieceError):
    """No rising tuple of rests or of names."""

    def __init__(self):
        super().__init__("this is no rising tuple of rests or of names")
        self.word = "NoGroup"


class NoLies(PieceError):
    """No rising tuple of lies, or too many of them."""

    def __init__(self):
        super().__init__("these are no lies, or too many")
        self.word = "NoLies"


class NoRow(PieceError):
    """No row of as many rests as there are hidden numbers."""

    def __init__(self):
        super().__init__("this is no row of as many rests as there are hidden numbers")
        self.word = "NoRow"


class NoNumber(PieceError):
    """No rest."""

    def __init__(self, x):
        super().__init__("this is no rest")
        self.word = "NoNumber"
        self.x = x


class Fallen(PieceError):
    """A house that lies fallen."""

    def __init__(self, x):
        super().__init__("this house lies fallen")
        self.word = "Fallen"
        self.x = x


class Standing(PieceError):
    """A house that stands."""

    def __init__(self, x):
        super().__init__("this house stands")
        self.word = "Standing"
        self.x = x


class Taken(PieceError):
    """The number of a house that is there already."""

    def __init__(self, x):
        super().__init__("there is such a house already")
        self.word = "Taken"
        self.x = x


class Few(PieceError):
    """Fewer houses than the least number that is needed."""

    def __init__(self, least):
        super().__init__("more houses are needed")
        self.word = "Few"
        self.least = least


class Full(PieceError):
    """As many houses, writes or spies as there may be."""

    def __init__(self):
        super().__init__("there are as many as may be")
        self.word = "Full"


class NoName(PieceError):
    """No text of 1 to 8 small letters."""

    def __init__(self, name):
        super().__init__("this is no name")
        self.word = "NoName"
        self.name = name


class NothingBack(PieceError):
    """No deed stands that could be undone."""

    def __init__(self):
        super().__init__("no deed stands")
        self.word = "NothingBack"


class Long(PieceError):
    """As many deeds stand as may."""

    def __init__(self):
        super().__init__("as many deeds stand as may")
        self.word = "Long"


class Busy(PieceError):
    """A rehearsal is under way."""

    def __init__(self):
        super().__init__("a rehearsal is under way")
        self.word = "Busy"


class NoDeed(PieceError):
    """No deed at that number of those to be rehearsed; None: no list or tuple of deeds."""

    def __init__(self, number):
        super().__init__("this is no deed")
        self.word = "NoDeed"
        self.number = number


class NoText(PieceError):
    """No text of a row or of a table."""

    def __init__(self):
        super().__init__("this is no text of a row or of a table")
        self.word = "NoText"


class NoHouse(LookupError):
    """No house of the store."""

    def __init__(self, x):
        super().__init__("there is no such house")
        self.word = "NoHouse"
        self.x = x


class NoSpy(LookupError):
    """No spy of that name."""

    def __init__(self, name):
        super().__init__("there is no spy of this name")
        self.word = "NoSpy"
        self.name = name


class NoWrite(LookupError):
    """No write of that number."""

    def __init__(self, number):
        super().__init__("there is no such write")
        self.word = "NoWrite"
        self.number = number


class NoMoment(LookupError):
    """No moment of the store."""

    def __init__(self, at):
        super().__init__("there is no such moment")
        self.word = "NoMoment"
        self.at = at
