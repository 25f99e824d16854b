"""The refusals. What a refusal is made of are its fields."""


class MaybeError(ValueError):
    """Any refusal."""


class NoFilling(MaybeError):
    """A filling has no value for a gap."""

    def __init__(self, gap):
        self.gap = gap


class TooMany(MaybeError):
    """There would be too many kinds of fillings, or too many rows."""


class Twice(MaybeError):
    """A name stands twice where it may stand once."""

    def __init__(self, name):
        self.name = name


class Short(MaybeError):
    """A row has more or fewer cells than there are columns."""

    def __init__(self, row):
        self.row = row


class NoColumn(MaybeError):
    """A name is no column."""

    def __init__(self, name):
        self.name = name


class Unlike(MaybeError):
    """Two things don't match: columns, lengths."""


class TooFew(MaybeError):
    """A stock has fewer values than are wanted."""

    def __init__(self, wanted):
        self.wanted = wanted


class NoText(MaybeError):
    """A text is not written as it should be."""


class NoName(MaybeError):
    """A name has no table."""

    def __init__(self, name):
        self.name = name
