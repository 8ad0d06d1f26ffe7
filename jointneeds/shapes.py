"""Questions about the shape of ideals and complexes that the needs and holes decide."""

from jointneeds.complexes import link
from jointneeds.components import dimension
from jointneeds.holes import holes, limited_faces
from jointneeds.monomials import degree_of
from jointneeds.needs import is_ring, needs_by_cuts


def length_of(ideal, prime):
    """The greatest step at which there are needs."""
    return max([need[0] for need in needs_by_cuts(ideal, prime)])


def depth_of(ideal, prime):
    """The number of variables minus the length."""
    n, _ = ideal
    return n - length_of(ideal, prime)


def breadth_of(ideal, prime):
    """The greatest value of a degree minus its step."""
    return max([degree_of(m) - i for i, m, _ in needs_by_cuts(ideal, prime)])


def is_balanced(ideal, prime):
    """Whether the depth is the dimension."""
    return depth_of(ideal, prime) == dimension(ideal)


def is_straight(ideal, prime):
    """Whether all generators have one degree, which rises by 1 with each step."""
    needs = needs_by_cuts(ideal, prime)
    _, generators = ideal
    if not generators or is_ring(ideal):
        return False
    degree = degree_of(generators[0])
    # The generators themselves are the needs at step 1.
    return all([degree_of(m) == degree + i - 1 for i, m, _ in needs if i > 0])


def balance_breach(facets, prime):
    """None, or the first face whose link has a hole below its greatest dimension, and that hole's."""
    for row in limited_faces(facets):
        for face in row:
            numbers = holes(link(facets, face), prime)
            low = [k - 1 for k, number in enumerate(numbers[:-1]) if number > 0]
            if low:
                return (face, low[0])
    return None
