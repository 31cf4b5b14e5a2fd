"""The errors that the package raises."""


class BreakError(ValueError):
    """The base class of all errors that the package raises."""


class BadBlock(BreakError):
    """Raised for what is no block."""


class BadBreaker(BreakError):
    """Raised for what is no breaker."""


class BadGame(BreakError):
    """Raised for what is no game."""


class BadScheme(BreakError):
    """Raised for what is no scheme or goal, or does not fit the block."""


class BadChoice(BreakError):
    """Raised for a choice that is not among those there are."""


class BadMessage(BreakError):
    """Raised for a message that cannot be pressed."""


class TooMany(BreakError):
    """Raised where there are more ways than were allowed."""


class BadText(BreakError):
    """Raised for a text that tells no breaker.

    The place is the length of the longest beginning that some right text has, too.
    """

    def __init__(self, place):
        self.place = place
