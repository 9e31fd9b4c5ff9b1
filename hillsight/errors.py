"""The errors with which the package refuses what it is handed."""


class HillError(ValueError):
    """Any refusal."""


class NoLand(HillError):
    """What was handed in, or written in a text, is no land."""


class NoHill(HillError):
    """What was handed in is no place of a hill of the land."""


class SameHill(HillError):
    """Two different hills are needed, and one was named twice."""


class TooHigh(HillError):
    """A lift by no whole number, or to a height beyond the bound."""


class NothingDone(HillError):
    """No lift is left that could be taken back."""
