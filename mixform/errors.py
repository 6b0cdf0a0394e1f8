"""The refusals of the program: each one is a MixError."""


class MixError(ValueError):
    """Any refusal."""


class NoText(MixError):
    """What was to be read is no text of a form."""


class TooMany(MixError):
    """What was asked lies beyond a bound of the document."""


class NoRow(MixError):
    """A row of numbers is no solution."""


class NoRule(MixError):
    """Two forms make no rule."""
