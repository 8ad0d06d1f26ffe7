"""Stable and strongly stable ideals."""

from jointneeds.choices import needs_by_choices
from jointneeds.errors import NotStable
from jointneeds.ideals import MOST_GENERATORS, contains, ideal_of
from jointneeds.monomials import degree_of, has_divisor, support_of


def stable_breach(ideal):
    """None for a stable ideal, and else the first pair of a generator and a variable that fails."""
    _, generators = ideal
    for g, generator in enumerate(generators):
        for m in support_of(generator)[-1:]:
            for j in range(m):
                if not contains(ideal, exchanged(generator, m, j)):
                    return (g, j)
    return None


def strong_breach(ideal):
    """None for a strongly stable ideal, and else the first triple (generator, m, j) that fails."""
    _, generators = ideal
    for g, generator in enumerate(generators):
        for m in support_of(generator):
            for j in range(m):
                if not contains(ideal, exchanged(generator, m, j)):
                    return (g, m, j)
    return None


def exchanged(monomial, m, j):
    """A monomial with one exponent less at m, and one more at the lesser variable j."""
    return monomial[:j] + (monomial[j] + 1,) + monomial[j + 1:m] + (monomial[m] - 1,) + monomial[m + 1:]


def stable_hull(n, monomials):
    """The least strongly stable ideal that contains some monomials."""
    found = []
    for monomial in sorted(monomials, key=degree_of):
        spread(monomial, found)
    return ideal_of(n, found)


def spread(monomial, found):
    """Put a monomial, and what comes of it by exchanges, to the generators of a hull.

    The hull of all monomials of lesser degrees is there; what lies in it stays
    in it by exchanges. So each monomial that is put to it is a least one, and
    beyond the bound there is no need to go on.
    """
    waiting = [monomial]
    while waiting and len(found) <= MOST_GENERATORS:
        current = waiting.pop()
        if not has_divisor(current, found):
            found.append(current)
            # Exchanges with other variables are made of those with neighbours.
            waiting.extend([exchanged(current, m, m - 1) for m in support_of(current) if m > 0])


def needs_by_steps(ideal):
    """The list of needs of a stable ideal."""
    if stable_breach(ideal) is not None:
        raise NotStable("an exchange leads out of the ideal")
    _, generators = ideal
    return needs_by_choices(ideal, [(generator, variables_ahead(generator)) for generator in generators])


def variables_ahead(monomial):
    """The variables less than the greatest one in the support."""
    return list(range(max(support_of(monomial), default=0)))
