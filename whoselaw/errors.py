"""The refusals. Each is made without anything."""


class LawError(ValueError):
    """Whatever the program refuses."""


class NotHeld(LawError):
    """Nobody holds the thing that is to be dealt out."""


class NoTurn(LawError):
    """There is no such rule to turn, or it is so already."""


class NoFact(LawError):
    """It is no fact that a book of these lands could have."""


class Twice(LawError):
    """It stands there already."""


class TooMany(LawError):
    """There is no room for another one."""


class NotTold(LawError):
    """There is no such thing to look up or to take back."""


class NoRule(LawError):
    """It is no rule of one of these lands."""


class NoText(LawError):
    """It is not the text of a book of these lands."""
