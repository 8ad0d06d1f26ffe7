"""The needs of ideals, found in five ways that share nothing but the homology.

N(i, m) is the number of basis elements of degree m at step i of the least
free resolution of the ring modulo an ideal.
"""

from jointneeds.complexes import all_faces, complex_of_ideal, dual_complex, facets_of, restricted
from jointneeds.duals import broken_up, names_of
from jointneeds.errors import TooMany
from jointneeds.holes import numbers_of_holes
from jointneeds.ideals import want_small
from jointneeds.monomials import divides, lcm_of, one_of, support_of

MOST_MULTIPLES = 128
MOST_LOTS = 8
MOST_IN_CHAINS = 16
MOST_NAMES = 9


def common_multiples(ideal):
    """The least common multiples of all sets of generators, ascending."""
    want_small(ideal)
    return multiples_of(ideal)


def multiples_of(ideal):
    """The common multiples of an ideal that need not be small."""
    n, generators = ideal
    found = [one_of(n)]
    for generator in generators:
        found = sorted(set(found + [lcm_of(generator, other) for other in found]))
    return tuple(found)


def limited_multiples(ideal):
    """The common multiples, if they are not too many."""
    found = common_multiples(ideal)
    if len(found) > MOST_MULTIPLES:
        raise TooMany(MOST_MULTIPLES)
    return found


def is_ring(ideal):
    """Whether an ideal is the whole ring."""
    n, generators = ideal
    return generators == (one_of(n),)


def listed(ideal, needs):
    """The list of needs: these, and the one at step 0 unless the ideal is the whole ring."""
    n, _ = ideal
    if is_ring(ideal):
        return ()
    return tuple(sorted([(0, one_of(n), 1)] + needs))


def rising_needs(m, numbers):
    """The needs at m where the holes of dimension i - 2 tell those at step i."""
    return [(k + 1, m, number) for k, number in enumerate(numbers) if number > 0]


def falling_needs(m, size, numbers):
    """The needs at m where the holes of dimension size - i - 1 tell those at step i."""
    return [(size - k, m, number) for k, number in enumerate(numbers) if number > 0]


def needs_by_cuts(ideal, prime):
    """The list of needs, by what may be taken off the common multiples."""
    needs = []
    for m in limited_multiples(ideal)[1:]:
        rows = all_faces(cut_facets(ideal, m))
        needs.extend(rising_needs(m, numbers_of_holes(rows, prime)))
    return listed(ideal, needs)


def cut_facets(ideal, m):
    """The facets of the sets of variables by which m can be divided within the ideal."""
    n, generators = ideal
    # A set can be taken off within the multiples of a generator just if m has
    # more of each of its variables than the generator has.
    fitting = [generator for generator in generators if divides(generator, m)]
    spare = [tuple([k for k in range(n) if generator[k] < m[k]]) for generator in fitting]
    return facets_of(n, spare)


def needs_by_duals(ideal, prime):
    """The list of needs, by the dual complexes of those of needs_by_cuts."""
    needs = []
    for m in limited_multiples(ideal)[1:]:
        support = support_of(m)
        facets = numbered(cut_facets(ideal, m), support)
        rows = all_faces(dual_complex(len(support), facets))
        needs.extend(falling_needs(m, len(support), numbers_of_holes(rows, prime)))
    return listed(ideal, needs)


def numbered(facets, vertices):
    """Facets told by the places of their vertices in an ascending tuple."""
    return tuple([tuple([vertices.index(vertex) for vertex in facet]) for facet in facets])


def needs_by_lots(ideal, prime):
    """The list of needs, by sets of generators."""
    multiples = limited_multiples(ideal)
    _, generators = ideal
    if len(generators) > MOST_LOTS:
        raise TooMany(MOST_LOTS)
    needs = []
    for m in multiples[1:]:
        rows = all_faces(lot_facets(generators, m))
        needs.extend(rising_needs(m, numbers_of_holes(rows, prime)))
    return listed(ideal, needs)


def lot_facets(generators, m):
    """The facets of the sets of generators whose least common multiple is below m."""
    fitting = [k for k, generator in enumerate(generators) if divides(generator, m)]
    # Such a multiple has less than m of some variable, and so has each of the set.
    below = [tuple([k for k in fitting if generators[k][j] < m[j]]) for j in support_of(m)]
    return facets_of(len(generators), below)


def needs_by_multiples(ideal, prime):
    """The list of needs, by chains of common multiples."""
    multiples = limited_multiples(ideal)
    if len(multiples) > MOST_IN_CHAINS:
        raise TooMany(MOST_IN_CHAINS)
    needs = []
    for m in multiples[1:]:
        between = [other for other in multiples[1:] if other != m and divides(other, m)]
        needs.extend(rising_needs(m, numbers_of_holes(chain_rows(between), prime)))
    return listed(ideal, needs)


def chain_rows(monomials):
    """All sets of ascending monomials that divide one another, by their sizes.

    A set is told by the ascending numbers of its monomials.
    """
    many = len(monomials)
    above = [[j for j in range(k + 1, many) if divides(monomials[k], monomials[j])] for k in range(many)]
    rows = [[()]]
    longer = [(k,) for k in range(many)]
    while longer:
        rows.append(longer)
        longer = [chain + (k,) for chain in longer for k in above[chain[-1]]]
    return rows


def needs_by_restrictions(ideal, prime):
    """The list of needs, by the restrictions of the squarefree ideal made of the ideal."""
    limited_multiples(ideal)
    if len(names_of(ideal)) > MOST_NAMES:
        raise TooMany(MOST_NAMES)
    other, names = broken_up(ideal)
    facets = complex_of_ideal(other)
    needs = []
    for m in multiples_of(other)[1:]:
        support = support_of(m)
        rows = all_faces(restricted(facets, support))
        told = told_back(ideal, [names[k] for k in support])
        needs.extend(falling_needs(told, len(support), numbers_of_holes(rows, prime)))
    return listed(ideal, needs)


def told_back(ideal, names):
    """The monomial that the product of variables with these names comes of."""
    n, _ = ideal
    exponents = [0] * n
    for variable, _ in names:
        exponents[variable] += 1
    return tuple(exponents)
