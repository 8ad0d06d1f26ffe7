"""Ideals: a number of variables and the least generators, ascending."""

from jointneeds.errors import NotIdeal, TooGreat, TooMany
from jointneeds.monomials import MOST_EXPONENT, MOST_VARIABLES
from jointneeds.monomials import has_divisor, is_monomial, is_whole, least_ones

MOST_GENERATORS = 60

SMALL_VARIABLES = 8
SMALL_GENERATORS = 10


def breach(value):
    """None for an ideal, and else the first broken rule and its place."""
    if not has_form(value):
        return ("form", -1)
    n, entries = value
    place = first_no_monomial(n, entries)
    if place is not None:
        return ("monomial", place)
    place = first_out_of_sequence(entries)
    if place is not None:
        return ("sequence", place)
    place = first_not_least(entries)
    if place is not None:
        return ("least", place)
    if len(entries) > MOST_GENERATORS:
        return ("many", MOST_GENERATORS)
    return None


def has_form(value):
    """Whether any value is a tuple of a number of variables and a tuple."""
    if not isinstance(value, tuple) or len(value) != 2:
        return False
    n, entries = value
    if not is_whole(n) or not isinstance(entries, tuple):
        return False
    return 1 <= n <= MOST_VARIABLES


def first_no_monomial(n, entries):
    """The index of the first entry that is no monomial, or None."""
    for place, entry in enumerate(entries):
        if not is_monomial(n, entry):
            return place
    return None


def first_out_of_sequence(entries):
    """The index of the first entry not above the one ahead of it, or None."""
    for place in range(1, len(entries)):
        if entries[place] <= entries[place - 1]:
            return place
    return None


def first_not_least(entries):
    """The index of the first of ascending entries that another one divides."""
    for place, entry in enumerate(entries):
        # A divisor is a lesser tuple, so it stands ahead of what it divides.
        if has_divisor(entry, entries[:place]):
            return place
    return None


def check_ideal(value):
    """The value itself if it is an ideal; else NotIdeal is raised."""
    broken = breach(value)
    if broken is not None:
        rule, place = broken
        raise NotIdeal(rule, place)
    return value


def ideal_of(n, monomials):
    """The ideal that monomials generate, if it keeps the bounds."""
    generators = least_ones(monomials, MOST_GENERATORS + 1)
    if len(generators) > MOST_GENERATORS:
        raise TooMany(MOST_GENERATORS)
    for generator in generators:
        if max(generator) > MOST_EXPONENT:
            raise TooGreat(MOST_EXPONENT)
    return (n, tuple(generators))


def contains(ideal, monomial):
    """Whether a monomial lies in an ideal."""
    _, generators = ideal
    return has_divisor(monomial, generators)


def is_within(a, b):
    """Whether each monomial of a lies in b."""
    _, generators = a
    return all([contains(b, generator) for generator in generators])


def want_small(ideal):
    """Raise TooMany unless an ideal is small."""
    n, generators = ideal
    if n > SMALL_VARIABLES:
        raise TooMany(SMALL_VARIABLES)
    if len(generators) > SMALL_GENERATORS:
        raise TooMany(SMALL_GENERATORS)
