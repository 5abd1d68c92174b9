"""The refusals: one base, and the others each straight under it."""


class BandError(ValueError):
    """Any refusal."""


class NoThing(BandError):
    """One of a list is no thing's number."""


class Full(BandError):
    """There would be more things than an order has."""


class NoPair(BandError):
    """There is no pair with so many chains, or crowds."""


class NoShape(BandError):
    """The second shape has not just one box more."""


class NoTables(BandError):
    """No row is bumped into the two lists."""


class NoSwap(BandError):
    """The two numbers of a row may not change places."""


class NoText(BandError):
    """A row of a text is not formed as a book's row."""


class Ring(BandError):
    """A name would stand below itself."""


class NoRow(BandError):
    """A row that is told to a desk is of no known kind."""


class NoName(BandError):
    """A word is no name, or not one that may stand there."""
