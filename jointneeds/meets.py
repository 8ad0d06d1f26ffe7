"""The ideal of the monomials that lie in each of several ideals."""

from jointneeds.errors import TooMany
from jointneeds.ideals import MOST_GENERATORS, ideal_of
from jointneeds.monomials import divides, has_divisor, lcm_of, least_ones, one_of


class Meeting:
    """Finds the least monomials that lie in each of several ideals.

    The meets of some of the ideals may have very many more generators than
    the meet of all has. So none of them is made: the search rises from 1 by
    generators of one ideal after another, and turns each monomial that lies
    in all of them into a least one.
    """

    def __init__(self, rows):
        self.rows = rows
        self.found = []
        # Whatever lies in all ideals and is a multiple of one of the closed
        # monomials is a multiple of a found one, too.
        self.closed = []

    def search(self, low, rows):
        """See to it that low can be closed; rows are those still to be met."""
        open_rows = self.raised(low, rows)
        if not open_rows:
            self.keep(lowered(low, self.rows))
            return
        fewest = min(open_rows, key=len)
        for entry in fewest:
            if not has_divisor(entry, self.closed):
                self.search(entry, open_rows)
                self.close(entry)

    def raised(self, low, rows):
        """The rows without low, as the multiples of low that may be needed."""
        open_rows = []
        for row in rows:
            entries = sorted({lcm_of(low, entry) for entry in row})
            if low not in entries:
                open_rows.append(self.not_closed(entries))
        return open_rows

    def not_closed(self, entries):
        """The entries that are multiples of no closed monomial."""
        return [entry for entry in entries if not has_divisor(entry, self.closed)]

    def keep(self, monomial):
        """Keep a least monomial that lies in all ideals."""
        self.found.append(monomial)
        if len(self.found) > MOST_GENERATORS:
            raise TooMany(MOST_GENERATORS)
        self.close(monomial)

    def close(self, monomial):
        """Close a monomial; its multiples are closed by it from now on."""
        others = [other for other in self.closed if not divides(monomial, other)]
        self.closed = [monomial] + others


def lowered(monomial, rows):
    """A least monomial in all rows that divides a monomial in all rows."""
    fitting = [[entry for entry in row if divides(entry, monomial)] for row in rows]
    exponents = []
    for k in range(len(monomial)):
        needed = [min([entry[k] for entry in fits]) for fits in fitting]
        exponent = max(needed, default=0)
        fitting = [[entry for entry in fits if entry[k] <= exponent] for fits in fitting]
        exponents.append(exponent)
    return tuple(exponents)


def meet_of_rows(n, rows):
    """The meet of the ideals that rows of monomials generate."""
    least_rows = [tuple(least_ones(row, len(row))) for row in rows]
    meeting = Meeting(sorted(set(least_rows)))
    meeting.search(one_of(n), meeting.rows)
    return ideal_of(n, meeting.found)
