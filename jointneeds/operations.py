"""Ideals made of other ideals."""

from jointneeds.ideals import ideal_of
from jointneeds.meets import meet_of_rows
from jointneeds.monomials import cut, lcm_of, one_of, times


def sum_of(a, b):
    """The ideal that the generators of both generate."""
    n, ours = a
    _, theirs = b
    return ideal_of(n, ours + theirs)


def product_of(a, b):
    """The ideal that the products of one generator of each generate."""
    n, ours = a
    _, theirs = b
    return ideal_of(n, [times(x, y) for x in ours for y in theirs])


def meet_of(a, b):
    """The ideal of the monomials that lie in both."""
    n, ours = a
    _, theirs = b
    return ideal_of(n, [lcm_of(x, y) for x in ours for y in theirs])


def power_of(ideal, k):
    """The product of k equal ideals; each power up to it keeps the bounds."""
    n, _ = ideal
    power = ideal_of(n, [one_of(n)])
    for _ in range(k):
        power = product_of(power, ideal)
    return power


def colon_by(ideal, monomial):
    """The ideal of all m such that m times the monomial lies in the ideal."""
    n, generators = ideal
    return ideal_of(n, [cut(generator, monomial) for generator in generators])


def colon_of(a, b):
    """The ideal of all m that take each generator of b into a."""
    n, ours = a
    _, theirs = b
    return meet_of_rows(n, [[cut(x, y) for x in ours] for y in theirs])


def saturated(ideal, variable):
    """The ideal of all m that a power of the variable takes into the ideal."""
    n, generators = ideal
    return ideal_of(n, [without_variable(generator, variable) for generator in generators])


def without_variable(monomial, variable):
    """A monomial with the exponent 0 at a variable."""
    return monomial[:variable] + (0,) + monomial[variable + 1:]


def radical_of(ideal):
    """The ideal of all monomials of which some power lies in the ideal."""
    n, generators = ideal
    return ideal_of(n, [without_powers(generator) for generator in generators])


def without_powers(monomial):
    """The product of the variables in the support of a monomial."""
    return tuple([min(exponent, 1) for exponent in monomial])


def permuted(ideal, listing):
    """The ideal whose exponent number k was number listing[k] before."""
    n, generators = ideal
    return ideal_of(n, [tuple([generator[k] for k in listing]) for generator in generators])
