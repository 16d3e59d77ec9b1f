"""The refusals: one base, and each other one straight under it."""


class StarError(ValueError):
    """The base of all refusals."""


class Unlike(StarError):
    """Two things that must go together do not: unlike counts of things, or unlike orders."""


class NoRounds(StarError):
    """The lists are no rounds of an order."""


class Apart(StarError):
    """Not all things hang together."""


class NoMove(StarError):
    """The move cannot be done."""


class NotLeast(StarError):
    """The row has more exchanges than its order needs."""


class NotGreat(StarError):
    """The row is no least row of the great round."""


class NoTree(StarError):
    """The list is no tree."""


class NoCars(StarError):
    """The cars do not all find a place."""


class NoChain(StarError):
    """The sharings are no chain."""


class NoBound(StarError):
    """A number is out of its bounds."""


class NoText(StarError):
    """The text does not write what is due."""


class NoName(StarError):
    """The name stands for nothing."""
