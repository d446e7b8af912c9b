"""The refusals of Panplan."""


class PanError(ValueError):
    """Any refusal."""


class BadCount(PanError):
    """A count or a number that is none of those that are asked for."""


class BadCases(PanError):
    """What is no list of cases of so many things."""


class BadDone(PanError):
    """What is no list of weighings that were done."""
