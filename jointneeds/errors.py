"""The errors of the package; each one derives straight from JointError."""


class JointError(ValueError):
    """Any error of this package."""


class NotIdeal(JointError):
    """A value is no ideal: the first broken rule, and where it is broken."""

    def __init__(self, rule, place):
        super().__init__(f"no ideal: rule {rule} is broken at {place}")
        self.rule = rule
        self.place = place


class TooMany(JointError):
    """There are more things than the limit lets."""

    def __init__(self, limit):
        super().__init__(f"more than {limit}")
        self.limit = limit


class TooGreat(JointError):
    """An exponent is above the limit."""

    def __init__(self, limit):
        super().__init__(f"an exponent is above {limit}")
        self.limit = limit


class NotText(JointError):
    """A string is not the text of an ideal."""

    def __init__(self, place):
        super().__init__(f"no text of an ideal from {place} on")
        self.place = place


class NotBelow(JointError):
    """A generator does not divide a given monomial."""

    def __init__(self, place):
        super().__init__(f"generator {place} does not divide the monomial")
        self.place = place


class NotComplex(JointError):
    """A value does not list the facets of a complex."""


class NotSquarefree(JointError):
    """An ideal has a generator with an exponent above 1."""


class NotCycle(JointError):
    """A chain is not a cycle of faces of the complex."""


class NotResolution(JointError):
    """A value is no resolution: the first broken rule, and the level."""

    def __init__(self, rule, place):
        super().__init__(f"no resolution: rule {rule} is broken at {place}")
        self.rule = rule
        self.place = place


class NotGrowth(JointError):
    """A row of integers does not grow as a row of left over numbers does."""

    def __init__(self, place):
        super().__init__(f"entry {place} breaks the row")
        self.place = place


class NotListing(JointError):
    """A listing of generators is no quotient listing."""

    def __init__(self, place):
        super().__init__(f"no quotient listing: it fails at {place}")
        self.place = place


class NotStable(JointError):
    """An ideal is not stable."""


class NotGraph(JointError):
    """A value is no graph."""


class NotTwo(JointError):
    """An ideal is not one in two variables."""


class NotProper(JointError):
    """An ideal would become the whole ring."""


class NothingLeft(JointError):
    """There is no monomial left to take back."""
