"""The errors of the package, one class for each kind of failure.

The messages do not show the fields: a field may hold any value, also one
that is too long to be written out.
"""


class ScoopError(ValueError):
    """The base class of all errors of the package."""


class BadRow(ScoopError):
    """A row is not valid; field is the word for what is wrong with it."""

    def __init__(self, field):
        super().__init__("the row is not valid")
        self.field = field


class BadIndex(ScoopError):
    """An index is not valid."""


class BadNumber(ScoopError):
    """A number is not valid."""


class BadCapacity(ScoopError):
    """The capacity of a carrier is not valid."""


class BadHolder(ScoopError):
    """A pair (capacity, count) is not valid."""


class BadTrains(ScoopError):
    """A list of trains is not valid."""


class BadCounts(ScoopError):
    """Numbers of sweeps are not valid."""


class BadCarrier(ScoopError):
    """There is no carrier k."""

    def __init__(self, k):
        super().__init__("there is no such carrier")
        self.k = k


class Blocked(ScoopError):
    """Carrier k would overtake the carrier ahead of it."""

    def __init__(self, k):
        super().__init__("the carrier ahead stands in front of the same box")
        self.k = k


class Apart(ScoopError):
    """Carriers k and k + 1 do not stand in front of the same box."""

    def __init__(self, k):
        super().__init__("the carriers stand in front of different boxes")
        self.k = k


class BadSet(ScoopError):
    """A set of capacities is not valid."""


class BadLimits(ScoopError):
    """The limits of a watch are not valid."""


class BadLook(ScoopError):
    """An observation is not valid."""


class Crowded(ScoopError):
    """Too many vectors would have to be looked at."""


class Inconsistent(ScoopError):
    """An observation contradicts the n earlier ones."""

    def __init__(self, n):
        super().__init__("the observation contradicts the earlier ones")
        self.n = n


class BadVector(ScoopError):
    """A vector is not possible."""


class BadOperation(ScoopError):
    """An operation of a yard is not valid."""


class BadName(ScoopError):
    """A name is not valid, or not valid here."""

    def __init__(self, name):
        super().__init__("the name is not valid here")
        self.name = name


class At(ScoopError):
    """Operation k is refused."""

    def __init__(self, k):
        super().__init__("an operation is refused")
        self.k = k


class BadText(ScoopError):
    """Line k of a text is wrong."""

    def __init__(self, k):
        super().__init__("a line of the text is wrong")
        self.k = k
