"""The errors of the package. Each keeps what it is made of as fields."""


class VouchError(ValueError):
    """What every error of this package is."""


class Wrong(VouchError):
    """The argument at a place, counted from 0, is not as described."""

    def __init__(self, place):
        self.place = place


class TooMany(VouchError):
    """There are more than a limit lets pass."""

    def __init__(self, limit):
        self.limit = limit


class Unfit(VouchError):
    """Papers do not follow one another."""

    def __init__(self):
        pass


class NoDeed(VouchError):
    """A thing is not a deed."""

    def __init__(self):
        pass


class Unknown(VouchError):
    """A thing is not there."""

    def __init__(self, thing):
        self.thing = thing


class Taken(VouchError):
    """A thing is there already."""

    def __init__(self, thing):
        self.thing = thing


class Nothing(VouchError):
    """There is nothing to undo or to redo."""

    def __init__(self):
        pass


class Broken(VouchError):
    """The item at an index cannot be taken."""

    def __init__(self, at):
        self.at = at


class NoText(VouchError):
    """A thing is not the text of what is read."""

    def __init__(self):
        pass


class NoCommand(VouchError):
    """A thing is not a line that a desk takes."""

    def __init__(self):
        pass
