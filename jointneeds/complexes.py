"""Complexes: sets of vertices with all their subsets, told by the greatest ones."""

from itertools import combinations

from jointneeds.errors import NotComplex, NotSquarefree
from jointneeds.ideals import ideal_of
from jointneeds.monomials import is_whole

MOST_VERTICES = 12


def check_complex(v, facets):
    """The facets themselves if they are those of a complex; else NotComplex is raised."""
    if not is_whole(v) or not 0 <= v <= MOST_VERTICES:
        raise NotComplex("no number of vertices")
    if not isinstance(facets, tuple) or not all([is_face(v, facet) for facet in facets]):
        raise NotComplex("no tuple of ascending tuples of vertices")
    if facets_of(v, facets) != facets:
        raise NotComplex("out of sequence, or one within another one")
    return facets


def is_face(v, value):
    """Whether any value is an ascending tuple of some of v vertices."""
    if not isinstance(value, tuple):
        return False
    if not all([is_whole(vertex) and 0 <= vertex < v for vertex in value]):
        return False
    return all([low < high for low, high in zip(value, value[1:])])


def facets_of(v, faces):
    """The facets of the complex of all subsets of some sets."""
    return greatest_of(v, table_of(v, faces))


def table_of(v, faces):
    """For each set of v vertices, whether it is a subset of one of the faces.

    The place in the table has bit number k set if vertex number k is in the
    set, so that the complement of the set stands as far from the other end.
    """
    table = [False] * (1 << v)
    for face in faces:
        place = sum([1 << vertex for vertex in face])
        table[place] = True
    for vertex in range(v):
        bit = 1 << vertex
        for place in range(1 << v):
            if table[place] and place & bit > 0:
                table[place - bit] = True
    return table


def greatest_of(v, table):
    """The sets in a table that are in no other one, ascending."""
    bits = [1 << vertex for vertex in range(v)]
    found = []
    for place, is_there in enumerate(table):
        if is_there and not any([table[place + bit] for bit in bits if place & bit == 0]):
            found.append(tuple([vertex for vertex in range(v) if place & bits[vertex] > 0]))
    return tuple(sorted(found))


def reach_of(facets):
    """A number above all vertices of some facets."""
    return max([vertex + 1 for facet in facets for vertex in facet], default=0)


def faces_of(facets, count):
    """All faces with a number of vertices, ascending."""
    found = {}
    for facet in facets:
        vertices = list(facet)
        for face in combinations(vertices, count):
            found[face] = True
    return tuple(sorted(found))


def all_faces(facets):
    """The lists of the faces with no vertex, with one and so on, to the largest."""
    most = max([len(facet) for facet in facets], default=-1)
    return [list(faces_of(facets, count)) for count in range(most + 1)]


def link(facets, face):
    """The facets of the faces that are apart from a face, and a face with it."""
    # What is left of facets without a face within them is in no other such rest.
    around = [facet for facet in facets if all([vertex in facet for vertex in face])]
    return tuple(sorted([tuple([vertex for vertex in facet if vertex not in face]) for facet in around]))


def without(facets, vertex):
    """The facets of the faces that do not have a vertex."""
    return restricted(facets, [other for other in range(reach_of(facets)) if other != vertex])


def restricted(facets, vertices):
    """The facets of the faces within some vertices."""
    rests = [tuple([vertex for vertex in facet if vertex in vertices]) for facet in facets]
    return facets_of(reach_of(rests), rests)


def dual_complex(v, facets):
    """The facets of the sets of vertices whose complement is not a face."""
    return greatest_of(v, [not is_there for is_there in table_of(v, facets)[::-1]])


def ideal_of_complex(v, facets):
    """The ideal of the products of the vertices of sets that are not faces."""
    # The least of these sets are the complements of the dual complex's facets.
    products = [tuple([int(vertex not in facet) for vertex in range(v)]) for facet in dual_complex(v, facets)]
    return ideal_of(v, products)


def complex_of_ideal(ideal):
    """The facets of the sets of variables whose product is not in an ideal."""
    n, generators = ideal
    if any([max(generator) > 1 for generator in generators]):
        raise NotSquarefree("an exponent is above 1")
    # Such a set contains no support: its complement lies in no complement of one.
    return dual_complex(n, [tuple([k for k in range(n) if generator[k] == 0]) for generator in generators])
