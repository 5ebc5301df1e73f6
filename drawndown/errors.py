"""The refusals: one class for each, all straight under DrawError."""


class DrawError(ValueError):
    """Any refusal of this program."""


class NoLot(DrawError):
    """What was handed in as a lot is none."""


class NoTable(DrawError):
    """What was handed in as a table is none."""


class NoTuple(DrawError):
    """What was to be a tuple of as many whole numbers as a table has lines is none."""


class NotAlike(DrawError):
    """Two tables are of unlike sizes."""


class NotFair(DrawError):
    """A table that was to be turned back has a one number that is neither 1 nor -1."""


class NoText(DrawError):
    """What was to be read isn't a lot as it is written."""


class NoRule(DrawError):
    """What was handed in as the name of a rule is none."""


class Ended(DrawError):
    """A step was asked of a lot that has ended."""


class NoBottom(DrawError):
    """The last number of a lot is 0, where it is to be the lower one of fractions."""


class NoRoot(DrawError):
    """What was handed in as a root is none."""


class NoCube(DrawError):
    """What was handed in as a cube number or a cube lot is none."""


class NoSize(DrawError):
    """What was handed in as a size is none."""


class NoNumber(DrawError):
    """What was to be a whole number within bounds is none."""


class TooMany(DrawError):
    """What was asked goes beyond what is told."""


class NoStep(DrawError):
    """There is no step to take back."""


class NoDeed(DrawError):
    """There is no deed to undo."""


class NoRow(DrawError):
    """What was said to a desk is no row that it knows."""
