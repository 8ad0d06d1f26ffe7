"""Ideals that rise by one monomial after another."""

from itertools import permutations

from jointneeds.counts import numerator
from jointneeds.errors import NotProper, NothingLeft, TooMany
from jointneeds.ideals import SMALL_GENERATORS, contains, want_small
from jointneeds.monomials import degree_of, one_of, times
from jointneeds.needs import needs_by_cuts
from jointneeds.operations import colon_by, sum_of

MOST_IN_SEQUENCES = 5


class Rising:
    """An ideal that rises from the zero ideal, and falls back by what is taken back."""

    def __init__(self, n, prime):
        self.ideal = (n, ())
        self.prime = prime
        # For each monomial added: it, the ideal as it stood, and the cut.
        self.steps = []
        # The lists of needs of cuts, since each is asked for again and again.
        self.known = {}

    def add(self, monomial):
        """Add a monomial; the cut is returned, or None if the monomial lies in the ideal."""
        before = self.ideal
        if contains(before, monomial):
            return None
        if degree_of(monomial) == 0:
            raise NotProper("with 1 the ideal would be the whole ring")
        n, _ = before
        behind = sum_of(before, (n, (monomial,)))
        _, generators = behind
        if len(generators) > SMALL_GENERATORS:
            raise TooMany(SMALL_GENERATORS)
        made = colon_by(before, monomial)
        self.steps.append((monomial, before, made))
        self.ideal = behind
        return made

    def added(self):
        """The monomials that changed the ideal and are not taken back, as they came."""
        return tuple([step[0] for step in self.steps])

    def take_back(self):
        """Take the last monomial back, and return it."""
        if not self.steps:
            raise NothingLeft("no monomial is left to take back")
        monomial, before, _ = self.steps.pop()
        self.ideal = before
        return monomial

    def rest(self):
        """Another object that stands as this one does."""
        n, _ = self.ideal
        other = Rising(n, self.prime)
        other.ideal = self.ideal
        other.steps = list(self.steps)
        return other

    def running_numerator(self):
        """The numerator of the ideal as it stands."""
        return numerator(self.ideal)

    def cone(self):
        """The list of numbers that the needs of the cuts sum up to."""
        n, _ = self.ideal
        numbers = {(0, one_of(n)): 1}
        for monomial, _, made in self.steps:
            for i, m, number in self.needs_of_cut(made):
                place = (i + 1, times(monomial, m))
                numbers[place] = numbers.get(place, 0) + number
        return tuple(sorted([(i, m, numbers[(i, m)]) for i, m in numbers]))

    def needs_of_cut(self, made):
        """The list of needs of a cut."""
        if made not in self.known:
            self.known[made] = needs_by_cuts(made, self.prime)
        return self.known[made]

    def is_tight(self):
        """Whether the numbers of the cone are those of the ideal's list of needs."""
        numbers = self.cone()
        return numbers == needs_by_cuts(self.ideal, self.prime)


def rising_totals(ideal, prime):
    """The totals of the cones that come of all sequences of the generators."""
    want_few(ideal)
    n, generators = ideal
    rising = Rising(n, prime)
    totals = {}
    for listing in permutations(range(len(generators))):
        numbers = cone_behind(rising, [generators[k] for k in listing])
        totals[sum([need[2] for need in numbers])] = True
    return tuple(sorted(totals))


def want_few(ideal):
    """Raise TooMany unless an ideal is small and has few enough generators."""
    want_small(ideal)
    _, generators = ideal
    if len(generators) > MOST_IN_SEQUENCES:
        raise TooMany(MOST_IN_SEQUENCES)


def cone_behind(rising, monomials):
    """The cone of an object when monomials are added, which are then taken back."""
    for monomial in monomials:
        rising.add(monomial)
    numbers = rising.cone()
    for _ in monomials:
        rising.take_back()
    return numbers


def tight_listing(ideal, prime):
    """The least listing of the generators that makes the object tight, or None."""
    want_few(ideal)
    n, generators = ideal
    rising = Rising(n, prime)
    needs = needs_by_cuts(ideal, prime)
    for listing in permutations(range(len(generators))):
        if cone_behind(rising, [generators[k] for k in listing]) == needs:
            return listing
    return None
