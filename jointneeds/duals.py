"""The duals of ideals, and ideals broken up into squarefree ones."""

from jointneeds.components import components
from jointneeds.errors import NotBelow, TooMany
from jointneeds.ideals import ideal_of, want_small
from jointneeds.monomials import MOST_VARIABLES, divides


def dual_of(ideal, c):
    """The dual of an ideal by a monomial that all generators divide."""
    want_small(ideal)
    n, generators = ideal
    for place, generator in enumerate(generators):
        if not divides(generator, c):
            raise NotBelow(place)
    return ideal_of(n, [turned(part, c) for part in components(ideal)])


def turned(part, c):
    """The generator of the dual by c that belongs to a component."""
    return tuple([high + 1 - entry if entry > 0 else 0 for entry, high in zip(part, c)])


def broken_up(ideal):
    """A squarefree ideal made of an ideal, and the names of its variables."""
    _, generators = ideal
    names = names_of(ideal)
    if len(names) > MOST_VARIABLES:
        raise TooMany(MOST_VARIABLES)
    if not names:
        # No ideal has no variables: the one there is stands in no generator.
        return (ideal_of(1, [(0,) for _ in generators]), ())
    other = ideal_of(len(names), [broken_monomial(generator, names) for generator in generators])
    return (other, names)


def names_of(ideal):
    """The pairs of a variable and a step up to its greatest exponent."""
    n, generators = ideal
    tops = [max([generator[k] for generator in generators], default=0) for k in range(n)]
    return tuple([(k, step) for k in range(n) for step in range(1, tops[k] + 1)])


def broken_monomial(monomial, names):
    """The product of the new variables with the steps up to the exponents."""
    return tuple([int(step <= monomial[k]) for k, step in names])
