"""What the program refuses, one class for each refusal."""


class LoadError(ValueError):
    """Any refusal; made of a text."""

    def __init__(self, text):
        ValueError.__init__(self, text)


class NoNumber(LoadError):
    """No fraction can be made of what was handed in."""


class NoRing(LoadError):
    """No ring: part is ring, rooms or asks; number that of the first wrong thing in it, or None."""

    def __init__(self, part, number):
        LoadError.__init__(self, "no ring: part and number tell where")
        self.part = part
        self.number = number


class NoSlide(LoadError):
    """No slides: number is that of the first thing that is none, or None."""

    def __init__(self, number):
        LoadError.__init__(self, "no slides: number tells where")
        self.number = number


class NoTree(LoadError):
    """No tree: way tells through which trees one comes to what can't stand."""

    def __init__(self, way):
        LoadError.__init__(self, "no tree: way tells where")
        self.way = list(way)


class TooMany(LoadError):
    """More asks than the search takes."""


class NoChange(LoadError):
    """No change of the ring."""


class NoPlace(LoadError):
    """No place can be put in there, or taken out there."""


class NoString(LoadError):
    """No string of rings: number is that of the first wrong ring, or None."""

    def __init__(self, number):
        LoadError.__init__(self, "no string of rings: number tells where")
        self.number = number


class NoText(LoadError):
    """No writing of what is to be read: row is the number of the first wrong row."""

    def __init__(self, row):
        LoadError.__init__(self, "no writing: row tells where")
        self.row = row


class NoDay(LoadError):
    """No days are there, or no change of them to undo."""


class NoRow(LoadError):
    """No row that the desk knows."""


class NoName(LoadError):
    """Nothing stands by the name."""
