"""Graphs, their ideals, and papers on their shape."""

from itertools import combinations

from jointneeds.complexes import is_face
from jointneeds.errors import NotGraph
from jointneeds.ideals import ideal_of
from jointneeds.meets import meet_of_rows
from jointneeds.monomials import MOST_VARIABLES, is_whole, of_variables

LEAST_RING = 4


def check_graph(value):
    """The value itself if it is a graph; else NotGraph is raised."""
    if not is_graph(value):
        raise NotGraph("no graph")
    return value


def is_graph(value):
    """Whether any value is a graph."""
    if not isinstance(value, tuple) or len(value) != 2:
        return False
    n, edges = value
    if not is_whole(n) or not 1 <= n <= MOST_VARIABLES:
        return False
    if not isinstance(edges, tuple) or not all([is_face(n, edge) and len(edge) == 2 for edge in edges]):
        return False
    return all([low < high for low, high in zip(edges, edges[1:])])


def edge_ideal(graph):
    """The ideal of the products of the two ends of each edge."""
    n, edges = graph
    return ideal_of(n, [of_variables(n, edge) for edge in edges])


def cover_ideal(graph):
    """The ideal of the products of the least sets of vertices that meet every edge."""
    n, edges = graph
    # A monomial's support meets an edge just if it lies in the ideal of the two ends.
    return meet_of_rows(n, [[of_variables(n, (end,)) for end in edge] for edge in edges])


def complement(graph):
    """The graph with the edges that a graph does not have."""
    n, edges = graph
    return (n, tuple([edge for edge in combinations(range(n), 2) if edge not in edges]))


def neighbours_of(graph):
    """For each vertex the ascending list of its neighbours."""
    n, edges = graph
    return [[w for w in range(n) if (min(v, w), max(v, w)) in edges] for v in range(n)]


def ring_paper(graph):
    """The least filled listing of a graph, or else a bare ring, each with its name."""
    near = neighbours_of(graph)
    listing = least_filled(near)
    if listing is not None:
        return ("listing", listing)
    return ("ring", bare_ring(near))


def least_filled(near):
    """The least filled listing, or None.

    If there is a filled listing of what is left, there is one that begins with
    any vertex whose neighbours there are neighbours of one another.
    """
    listing = ()
    left = list(range(len(near)))
    while left:
        ready = [v for v in left if are_near(near, [w for w in near[v] if w in left])]
        if not ready:
            return None
        listing = listing + (ready[0],)
        left = [v for v in left if v != ready[0]]
    return listing


def are_near(near, vertices):
    """Whether all of some vertices are neighbours of one another."""
    return all([w in near[v] for v, w in combinations(vertices, 2)])


def bare_ring(near):
    """A bare ring of a graph that has one.

    It goes from a vertex to one of its neighbours, on by a shortest way apart
    from all the others, and back by another one.
    """
    everything = list(range(len(near)))
    for v in everything:
        for start, end in combinations(near[v], 2):
            apart = [w for w in everything if w == end or (w != v and w not in near[v])]
            way = shortest_ways(near, start, apart).get(end, ())
            if len(way) >= LEAST_RING - 1:
                return (v,) + way
    return None


def shortest_ways(near, start, vertices):
    """A shortest way from a start to each vertex that can be reached within some vertices."""
    ways = {start: (start,)}
    reached = [start]
    while reached:
        further = []
        for v in reached:
            for w in near[v]:
                if w in vertices and w not in ways:
                    ways[w] = ways[v] + (w,)
                    further.append(w)
        reached = further
    return ways


def is_ring_paper(graph, value):
    """Whether any value is a filled listing or a bare ring of a graph, with its name."""
    if not isinstance(value, tuple) or len(value) != 2:
        return False
    name, vertices = value
    if not isinstance(name, str) or not are_different(graph, vertices):
        return False
    near = neighbours_of(graph)
    if name == "listing":
        return len(vertices) == len(near) and is_filled(near, vertices)
    return name == "ring" and is_bare_ring(near, vertices)


def are_different(graph, value):
    """Whether any value is a tuple of different vertices of a graph."""
    n, _ = graph
    if not isinstance(value, tuple):
        return False
    if not all([is_whole(v) and 0 <= v < n for v in value]):
        return False
    return len(set(value)) == len(value)


def is_filled(near, listing):
    """Whether a listing of all vertices is filled."""
    for place, v in enumerate(listing):
        if not are_near(near, [w for w in listing[place + 1:] if w in near[v]]):
            return False
    return True


def is_bare_ring(near, ring):
    """Whether different vertices are a bare ring in this sequence."""
    many = len(ring)
    if many < LEAST_RING:
        return False
    for low, high in combinations(range(many), 2):
        is_step = high - low == 1 or high - low == many - 1
        if is_step != (ring[high] in near[ring[low]]):
            return False
    return True


def two_sides(graph):
    """The side of each vertex, so that neighbours differ, or a ring of an odd number of vertices."""
    n, edges = graph
    near = neighbours_of(graph)
    ways = {}
    for v in range(n):
        if v not in ways:
            ways.update(shortest_ways(near, v, list(range(n))))
    for low, high in edges:
        # The ways to neighbours differ by at most one step.
        if len(ways[low]) == len(ways[high]):
            return ("ring", joined(ways[low], ways[high]))
    return ("sides", tuple([(len(ways[v]) - 1) % 2 for v in range(n)]))


def joined(one, other):
    """The ring of the parts of two ways that they do not share, and the vertex where they part."""
    shared = len([v for v in one if v in other])
    return one[shared - 1:] + other[shared:][::-1]


def least_cover(graph):
    """The first least set of vertices that meets every edge."""
    n, edges = graph
    # All vertices but one are a cover; so there is one with less than all.
    lots = [lot for count in range(n) for lot in combinations(range(n), count)]
    covers = [lot for lot in lots if all([low in lot or high in lot for low, high in edges])]
    return covers[0]


def greatest_matching(graph):
    """The greatest number of edges of which no two have an end in common."""
    near = neighbours_of(graph)
    # For each set of vertices, told by its bits, the greatest number of edges within it.
    best = [0]
    for v, around in enumerate(near):
        for others in range(1 << v):
            matched = [best[others - (1 << w)] + 1 for w in around if others & (1 << w) > 0]
            best.append(max([best[others]] + matched))
    return best[-1]
