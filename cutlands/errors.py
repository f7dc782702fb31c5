"""The refusals: one class each, all under CutError."""


class CutError(ValueError):
    """Any refusal."""


class NoCutting(CutError):
    """What was handed in makes no cutting; at tells which thing of the list is to blame, or -1."""

    def __init__(self, at):
        self.at = at


class NoTable(CutError):
    """What was handed in is no table; at tells which row is to blame, or -1."""

    def __init__(self, at):
        self.at = at


class NoFraction(CutError):
    """A bottom, or what is divided by, is nought."""


class NoSpot(CutError):
    """What was handed in is no spot, or no list of spots."""


class NoSigns(CutError):
    """What was handed in is no signs."""


class NoLand(CutError):
    """The signs or the spot belong to no land."""


class NoFace(CutError):
    """The signs belong to no face."""


class NoNumber(CutError):
    """What was handed in is no number of the things asked of."""


class NoText(CutError):
    """The text is not written as it should be."""


class NoDeed(CutError):
    """The desk cannot read the row."""
