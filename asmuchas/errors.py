"""The errors that this package raises: each keeps the objects that it was made of."""


class MuchError(ValueError):
    """The base of all errors of this package."""


class Wrong(MuchError):
    """The argument at a place is not as described."""

    def __init__(self, place):
        self.place = place


class NoTelling(MuchError):
    """There is no telling with this index."""

    def __init__(self, index):
        self.index = index


class NothingFits(MuchError):
    """No worths fit all tellings."""


class Ordered(MuchError):
    """A heavier telling is there."""


class Unbalanced(MuchError):
    """A pair has not equally many names on both sides."""


class NotHeld(MuchError):
    """No multiple of the row is a mixture."""

    def __init__(self, row):
        self.row = row


class Unlike(MuchError):
    """Two worths have not the same things."""


class TooMany(MuchError):
    """There is more than the limit lets through."""

    def __init__(self, limit):
        self.limit = limit


class Refused(MuchError):
    """The tellings would not stand with this one."""

    def __init__(self, telling):
        self.telling = telling


class Nothing(MuchError):
    """There is nothing to take back, or to do again."""


class NoEntry(MuchError):
    """There are not so many entries."""

    def __init__(self, many):
        self.many = many


class NoText(MuchError):
    """The value is not a text of what was to be read."""


class NoCommand(MuchError):
    """The line tells nothing that can be done."""
