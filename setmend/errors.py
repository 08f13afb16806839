"""The refusals: each an own class under MendError alone."""


class MendError(ValueError):
    """Any refusal."""


class NoSet(MendError):
    """What was handed in as a set is none."""


class NoMark(MendError):
    """A whole number that is no mark."""


class NoInverse(MendError):
    """A number that comes to 0 on the wheel."""


class NoCount(MendError):
    """A number out of the bounds that hold at its place."""


class NoHand(MendError):
    """A hand that there isn't, or a number of hands that no house has."""


class NoLetter(MendError):
    """What was handed in as a letter is none."""


class NoText(MendError):
    """A text that no letter is written as."""


class Held(MendError):
    """A mark to be put that the hand has."""


class NotHeld(MendError):
    """A mark to be taken that the hand hasn't."""


class Unlike(MendError):
    """Another number than the one heard at the same place."""


class Late(MendError):
    """A letter of another turn than that of its two hands."""
