"""Graphs: [31] to [33]."""

import unittest
from itertools import combinations, permutations, product
from random import Random

from jointneeds.duals import dual_of
from jointneeds.errors import NotGraph, TooMany
from jointneeds.graphs import (
    check_graph, complement, cover_ideal, edge_ideal, greatest_matching, is_ring_paper, least_cover, ring_paper,
    two_sides,
)
from jointneeds.ideals import breach
from jointneeds.needs import common_multiples
from jointneeds.shapes import is_straight

from tests.boxes import LikeNothing, error_raised, limit_raised, squarefree, subsets, twice


def graph(n, *edges):
    """A graph with edges in whatever sequence."""
    return (n, tuple(sorted(tuple(sorted(edge)) for edge in edges)))


def full(n):
    """The graph with all edges."""
    return (n, tuple(combinations(range(n), 2)))


def ring(n):
    """The graph that is one ring."""
    return graph(n, *[(k, (k + 1) % n) for k in range(n)])


def path(n):
    """The graph that is one path."""
    return graph(n, *[(k, k + 1) for k in range(n - 1)])


def parts(*sizes):
    """Parts of so many vertices each, with all edges within each."""
    edges, start = [], 0
    for size in sizes:
        edges.extend(combinations(range(start, start + size), 2))
        start += size
    return graph(start, *edges)


# Two rings of four with two common vertices, and a prism.
LADDER = graph(6, (0, 1), (1, 2), (3, 4), (4, 5), (0, 3), (1, 4), (2, 5))
PRISM = graph(6, (0, 1), (1, 2), (0, 2), (3, 4), (4, 5), (3, 5), (0, 3), (1, 4), (2, 5))
PETERSEN = graph(10, *[(k, (k + 1) % 5) for k in range(5)], *[(k, k + 5) for k in range(5)],
                 *[(5 + k, 5 + (k + 2) % 5) for k in range(5)])
# Twelve vertices with 62 and with 63 least covers.
COVERS_62 = graph(12, (0, 1), (0, 3), (0, 4), (1, 2), (1, 6), (1, 7), (1, 9), (2, 6), (2, 7), (3, 4), (5, 9), (5, 10),
                  (6, 7), (8, 11), (9, 10))
COVERS_63 = graph(12, (0, 1), (0, 2), (0, 7), (1, 2), (2, 11), (3, 4), (3, 5), (4, 5), (6, 7), (6, 8), (7, 8), (9, 10),
                  (9, 11), (10, 11))

NO_GRAPHS = [
    None, True, 0, 3, "", "graph", b"", [], {}, set(), LikeNothing(), (), (3,), (3, (), ()), [3, ()], (3, []),
    (3, ((0, 1),), 0), ((), 3), (None, ()), (True, ()), (False, ()), (0, ()), (13, ()), (-1, ()), (2.0, ()),
    ("3", ()), ((3,), ()), ([], ()), (3, None), (3, 0), (3, "01"), (3, ""), (3, {}), (3, {(0, 1)}), (3, {(0, 1): 1}),
    (3, [(0, 1)]), (3, range(2)), (3, (0, 1)), (3, (0,)), (3, (None,)), (3, ("01",)), (3, ([0, 1],)), (3, ({0, 1},)),
    (3, (range(2),)), (3, (LikeNothing(),)), (3, ((),)), (3, ((0,),)), (3, ((0, 1, 2),)), (3, ((0, 1), (0, 1, 2))),
    (3, ((0, 1), (2,))), (3, ((0, 1), [1, 2])), (3, ((0, 1), None)),
    (3, ((0, 0),)), (3, ((1, 0),)), (3, ((2, 1),)), (3, ((0, 3),)), (3, ((0, 1), (2, 3))), (3, ((-1, 0),)),
    (3, ((-2, -1),)), (1, ((0, 1),)), (12, ((0, 12),)), (12, ((11, 12),)),
    (3, ((0, True),)), (3, ((False, 1),)), (3, ((False, True),)), (3, ((True, 2),)), (3, ((0, 1), (True, 2))),
    (3, ((0, 1.0),)), (3, ((0.0, 1),)), (3, (("0", "1"),)), (3, ((0, "1"),)), (3, ((0, None),)), (3, (((0,), 1),)),
    (3, ((0, [1]),)), (3, ((0, LikeNothing()),)),
    (3, ((0, 1), (0, 1))), (3, ((0, 2), (0, 1))), (3, ((1, 2), (0, 1))), (3, ((1, 2), (0, 2))),
    (4, ((0, 1), (2, 3), (1, 2))), (4, ((0, 1), (1, 2), (1, 2))), (4, ((0, 1), (1, 2), (0, 3))),
    (13, ((0, 1),)), (0, ((0, 1),)), (True, ((0, 1),)),
]


def all_graphs(n):
    """All graphs with n vertices."""
    return [(n, edges) for edges in subsets(combinations(range(n), 2))]


def some_graphs():
    """Graphs of one to four vertices, and some of five to seven."""
    random = Random(31)
    found = [value for n in range(1, 5) for value in all_graphs(n)]
    for _ in range(90):
        n = random.randint(5, 7)
        pairs = list(combinations(range(n), 2))
        found.append(graph(n, *random.sample(pairs, random.randint(0, len(pairs)))))
    return found + [LADDER, PRISM, ring(5), ring(6), ring(7), path(7), full(7), (7, ())]


def large_graphs():
    """Graphs of 12 vertices."""
    random = Random(13)
    pairs = list(combinations(range(12), 2))
    found = [graph(12, *random.sample(pairs, many)) for many in (4, 9, 12, 15, 20, 30, 45, 58, 63) for _ in range(4)]
    return found + [(12, ()), full(12), ring(12), path(12), parts(3, 4, 5), parts(*[2] * 6), parts(*[1] * 11, 1)]


def are_near(value, v, w):
    """Whether two vertices are neighbours."""
    return (min(v, w), max(v, w)) in value[1]


def is_filled(value, listing):
    """Whether a listing of all vertices is filled."""
    for place, v in enumerate(listing):
        behind = [w for w in listing[place + 1:] if are_near(value, v, w)]
        if not all(are_near(value, w, u) for w, u in combinations(behind, 2)):
            return False
    return True


def is_bare_ring(value, vertices):
    """Whether a tuple of vertices is a bare ring."""
    many = len(vertices)
    if many < 4 or len(set(vertices)) < many:
        return False
    steps = {frozenset((vertices[k], vertices[(k + 1) % many])) for k in range(many)}
    return all(are_near(value, v, w) == (frozenset((v, w)) in steps) for v, w in combinations(vertices, 2))


def covers_of(value):
    """All least sets of vertices that meet every edge."""
    n, edges = value
    every = [lot for lot in subsets(range(n)) if all(set(edge) & set(lot) for edge in edges)]
    return [lot for lot in every if not any(set(other) < set(lot) for other in every)]


def matching_of(edges):
    """The greatest number of edges that have no ends in common."""
    if not edges:
        return 0
    first, *others = edges
    apart = [edge for edge in others if not set(edge) & set(first)]
    return max(matching_of(others), 1 + matching_of(apart))


class CheckTests(unittest.TestCase):

    def test_graphs(self):
        for value in some_graphs() + large_graphs() + [(1, ()), (12, ()), (2, ((0, 1),)), (12, ((0, 11),))]:
            self.assertIs(check_graph(value), value)

    def test_no_graphs(self):
        for value in NO_GRAPHS:
            with self.subTest(repr(value)):
                error_raised(self, NotGraph, {}, check_graph, value)


class EdgeTests(unittest.TestCase):

    def test_by_hand(self):
        self.assertEqual(twice(self, edge_ideal, path(3)), (3, ((0, 1, 1), (1, 1, 0))))
        self.assertEqual(edge_ideal((1, ())), (1, ()))
        self.assertEqual(edge_ideal((12, ())), (12, ()))
        self.assertEqual(edge_ideal((12, ((0, 11),))), (12, ((1,) + (0,) * 10 + (1,),)))
        self.assertEqual(edge_ideal(ring(4)), (4, ((0, 0, 1, 1), (0, 1, 1, 0), (1, 0, 0, 1), (1, 1, 0, 0))))

    def test_products_of_the_ends(self):
        for value in some_graphs():
            found = edge_ideal(value)
            self.assertIsNone(breach(found))
            self.assertEqual(found, squarefree(value[0], *value[1]))

    def test_sixty_edges(self):
        edges = list(combinations(range(12), 2))
        for many in (59, 60):
            self.assertEqual(edge_ideal((12, tuple(edges[:many]))), squarefree(12, *edges[:many]))
        for many in (61, 62, 66):
            limit_raised(self, TooMany, edge_ideal, (12, tuple(edges[:many])))
        self.assertEqual(len(edge_ideal(full(11))[1]), 55)

    def test_complement(self):
        self.assertEqual(twice(self, complement, path(4)), (4, ((0, 2), (0, 3), (1, 3))))
        self.assertEqual(complement((1, ())), (1, ()))
        self.assertEqual(complement((12, ())), full(12))
        self.assertEqual(complement(full(12)), (12, ()))
        for value in some_graphs() + large_graphs():
            other = complement(value)
            self.assertIs(check_graph(other), other)
            self.assertEqual(set(other[1]) | set(value[1]), set(full(value[0])[1]))
            self.assertEqual(len(other[1]) + len(value[1]), len(full(value[0])[1]))
            self.assertEqual(complement(other), value)


class CoverIdealTests(unittest.TestCase):

    def test_by_hand(self):
        self.assertEqual(twice(self, cover_ideal, path(3)), (3, ((0, 1, 0), (1, 0, 1))))
        self.assertEqual(cover_ideal((1, ())), (1, ((0,),)))
        self.assertEqual(cover_ideal((12, ())), (12, ((0,) * 12,)))
        self.assertEqual(cover_ideal((2, ((0, 1),))), (2, ((0, 1), (1, 0))))
        self.assertEqual(cover_ideal(ring(4)), (4, ((0, 1, 0, 1), (1, 0, 1, 0))))

    def test_all_sets_of_vertices(self):
        for value in some_graphs():
            found = cover_ideal(value)
            self.assertIsNone(breach(found))
            self.assertEqual(found, squarefree(value[0], *covers_of(value)))

    def test_the_dual(self):
        compared = 0
        for value in some_graphs() + [PETERSEN]:
            if value[0] <= 8 and len(value[1]) <= 10:
                compared += 1
                self.assertEqual(cover_ideal(value), dual_of(edge_ideal(value), (1,) * value[0]))
        self.assertGreater(compared, 80)

    def test_more_than_sixty_edges(self):
        expected = squarefree(12, *[tuple(k for k in range(12) if k != v) for v in range(12)])
        self.assertEqual(cover_ideal(full(12)), expected)
        value = (12, full(12)[1][1:])
        self.assertEqual(cover_ideal(value), squarefree(12, *covers_of(value)))

    def test_sixty_covers(self):
        value = parts(3, 4, 5)
        self.assertEqual(len(covers_of(value)), 60)
        self.assertEqual(cover_ideal(value), squarefree(12, *covers_of(value)))
        for value, many in ((COVERS_62, 62), (COVERS_63, 63), (parts(4, 4, 4), 64), (parts(3, 3, 3, 3), 81),
                            (parts(*[2] * 6), 64)):
            self.assertEqual(len(covers_of(value)), many)
            limit_raised(self, TooMany, cover_ideal, value)

    def test_large_graphs(self):
        for value in large_graphs():
            covers = covers_of(value)
            if len(covers) <= 60:
                self.assertEqual(cover_ideal(value), squarefree(12, *covers))
            else:
                limit_raised(self, TooMany, cover_ideal, value)


class RingPaperTests(unittest.TestCase):

    def test_by_hand(self):
        self.assertEqual(twice(self, ring_paper, (1, ())), ("listing", (0,)))
        self.assertEqual(ring_paper((12, ())), ("listing", tuple(range(12))))
        self.assertEqual(ring_paper(full(12)), ("listing", tuple(range(12))))
        self.assertEqual(ring_paper(path(4)), ("listing", (0, 1, 2, 3)))
        self.assertEqual(ring_paper(ring(3)), ("listing", (0, 1, 2)))
        # The vertex in the middle has to wait until one of its neighbours is left.
        self.assertEqual(ring_paper(graph(4, (0, 1), (0, 2), (0, 3))), ("listing", (1, 2, 0, 3)))
        self.assertEqual(ring_paper(graph(5, (0, 1), (0, 2), (1, 3), (2, 4))), ("listing", (3, 1, 0, 2, 4)))
        for many in range(4, 13):
            name, vertices = twice(self, ring_paper, ring(many))
            self.assertEqual(name, "ring")
            self.assertEqual(sorted(vertices), list(range(many)))
            self.assertTrue(is_bare_ring(ring(many), vertices))

    def test_least_listing_or_bare_ring(self):
        kinds = {}
        for value in some_graphs():
            expected = next((one for one in permutations(range(value[0])) if is_filled(value, one)), None)
            name, vertices = twice(self, ring_paper, value)
            kinds[name] = kinds.get(name, 0) + 1
            if expected is not None:
                self.assertEqual((name, vertices), ("listing", expected))
            else:
                self.assertEqual(name, "ring")
                self.assertTrue(is_bare_ring(value, vertices))
        self.assertGreater(min(kinds.values()), 20)

    def test_large_graphs(self):
        for value in large_graphs() + [PETERSEN, COVERS_62, COVERS_63]:
            name, vertices = ring_paper(value)
            if name == "listing":
                self.assertEqual(sorted(vertices), list(range(value[0])))
                self.assertTrue(is_filled(value, vertices))
            else:
                self.assertTrue(is_bare_ring(value, vertices))

    def test_rings_with_many_chords_around(self):
        """All vertices of a ring are neighbours of one more vertex, or of a part with all edges."""
        for many in range(4, 10):
            edges = list(ring(many)[1])
            wheel = graph(many + 1, *edges, *[(k, many) for k in range(many)])
            name, vertices = ring_paper(wheel)
            self.assertEqual((name, sorted(vertices)), ("ring", list(range(many))))
            behind = graph(12, *[(12 - many + a, 12 - many + b) for a, b in edges],
                           *[(a, b) for a in range(12 - many) for b in range(a + 1, 12)])
            name, vertices = ring_paper(behind)
            self.assertEqual((name, sorted(vertices)), ("ring", list(range(12 - many, 12))))

    def test_straight_edge_ideals(self):
        both = {}
        for value in some_graphs():
            generators = edge_ideal(value)
            if not value[1] or len(value[1]) > 10 or len(common_multiples(generators)) > 128:
                continue
            name, _ = ring_paper(complement(value))
            for prime in (0, 2):
                self.assertEqual(is_straight(generators, prime), name == "listing")
                both[name] = both.get(name, 0) + 1
        self.assertGreater(min(both.values()), 10)


class IsRingPaperTests(unittest.TestCase):

    def test_all_listings_and_sequences(self):
        for value in [one for n in range(1, 5) for one in all_graphs(n)]:
            n, _ = value
            for many in range(n + 2):
                for vertices in product(range(n), repeat=many):
                    filled = sorted(vertices) == list(range(n)) and is_filled(value, vertices)
                    self.assertIs(is_ring_paper(value, ("listing", vertices)), filled)
                    self.assertIs(is_ring_paper(value, ("ring", vertices)), is_bare_ring(value, vertices))

    def test_some_larger_graphs(self):
        random = Random(32)
        kinds = {}
        for value in some_graphs()[90:]:
            n, _ = value
            for _ in range(60):
                vertices = tuple(random.sample(range(n), random.randint(4, n)))
                filled = len(vertices) == n and is_filled(value, vertices)
                self.assertIs(is_ring_paper(value, ("listing", vertices)), filled)
                self.assertIs(is_ring_paper(value, ("ring", vertices)), is_bare_ring(value, vertices))
                kinds[(filled, is_bare_ring(value, vertices))] = True
            self.assertTrue(is_ring_paper(value, ring_paper(value)))
        self.assertEqual(len(kinds), 3)

    def test_any_bare_ring_and_any_filled_listing(self):
        for vertices in ((0, 1, 4, 3), (3, 4, 1, 0), (1, 2, 5, 4), (4, 1, 2, 5)):
            self.assertIs(is_ring_paper(LADDER, ("ring", vertices)), True)
        self.assertIs(is_ring_paper(LADDER, ("ring", (0, 1, 2, 5, 4, 3))), False)
        for vertices in ((0, 1, 2, 3), (3, 2, 1, 0), (0, 3, 1, 2), (3, 0, 2, 1)):
            self.assertIs(is_ring_paper(path(4), ("listing", vertices)), True)
        self.assertIs(is_ring_paper(path(4), ("listing", (1, 0, 2, 3))), False)
        self.assertIs(is_ring_paper(ring(12), ("ring", tuple(range(11, -1, -1)))), True)
        self.assertIs(is_ring_paper(ring(12), ("ring", tuple(range(11)))), False)

    def test_rings_of_three(self):
        for value in (ring(3), full(4), full(12), PRISM):
            self.assertIs(is_ring_paper(value, ("ring", (0, 1, 2))), False)
        self.assertIs(is_ring_paper(full(4), ("ring", (0, 1, 2, 3))), False)

    def test_any_value(self):
        four = ring(4)
        fine = ("ring", (0, 1, 2, 3))
        self.assertIs(is_ring_paper(four, fine), True)
        self.assertIs(is_ring_paper(path(4), ("listing", (0, 1, 2, 3))), True)
        values = [
            None, True, 0, "", "ring", [], {}, set(), LikeNothing(), (), ("ring",), list(fine), fine + (0,), (fine,),
            ("ring", [0, 1, 2, 3]), ("ring", None), ("ring", 4), ("ring", "0123"), ("ring", {0: 1}), ("ring", {0, 1}),
            ("ring", range(4)), ("ring", ()), ("ring", (0,)), ("ring", (0, 1)), ("ring", (0, 1, 2)),
            ("ring", (0, 1, 2, 2)), ("ring", (0, 1, 2, 3, 0)), ("ring", (0, 2, 1, 3)), ("ring", (0, 1, 2, 4)),
            ("ring", (0, 1, 2, -1)), ("ring", (False, True, 2, 3)), ("ring", (0, True, 2, 3)),
            ("ring", (0, 1, 2, 3.0)), ("ring", (0, 1, 2, "3")), ("ring", (0, 1, 2, None)), ("ring", (0, 1, 2, [3])),
            ("ring", (0, 1, 2, (3,))), ("ring", (0, 1, 2, LikeNothing())), ("ring", ((0, 1), (2, 3))),
            ("Ring", (0, 1, 2, 3)), ("sides", (0, 1, 0, 1)), ("", (0, 1, 2, 3)), (b"ring", (0, 1, 2, 3)),
            (None, (0, 1, 2, 3)), (0, (0, 1, 2, 3)), (["ring"], (0, 1, 2, 3)), (("ring",), (0, 1, 2, 3)),
            (LikeNothing(), (0, 1, 2, 3)), ((0, 1, 2, 3), "ring"), ({}, (0, 1, 2, 3)),
            ("listing", (0, 1, 2, 3)), ("listing", ()), ("listing", None), ("listing", (0, 1, 2)),
        ]
        for value in values:
            with self.subTest(repr(value)):
                self.assertIs(is_ring_paper(four, value), False)
        values = [
            ("listing", ()), ("listing", (0, 1, 2)), ("listing", (0, 1, 2, 3, 3)), ("listing", (0, 1, 2, 2)),
            ("listing", (0, 1, 2, 4)), ("listing", (0, 1, 2, -1)), ("listing", (False, 1, 2, 3)),
            ("listing", (0, True, 2, 3)), ("listing", [0, 1, 2, 3]), ("listing", range(4)), ("listing", None),
            ("listing", "0123"), ("listing", (0, 1, 2, 3.0)), ("listing", (0, 1, 2, [3])), ("listing", (0, 1, 2, None)),
            ("listing", (0, 1, 2, 3), 0), ["listing", (0, 1, 2, 3)], ("list", (0, 1, 2, 3)), (None, (0, 1, 2, 3)),
            ("ring", (0, 1, 2, 3)), ("listing", ((0, 1, 2, 3),)),
        ]
        for value in values:
            with self.subTest(repr(value)):
                self.assertIs(is_ring_paper(path(4), value), False)


class SideTests(unittest.TestCase):

    def check_sides(self, value):
        """Check what two_sides returns, by all ways to put the vertices on sides."""
        n, edges = value
        name, told = twice(self, two_sides, value)
        if name == "sides":
            self.assertEqual(len(told), n)
            self.assertTrue(all(told[v] != told[w] for v, w in edges))
            for v in range(n):
                if not any(self.joined(value, w, v) for w in range(v)):
                    self.assertEqual(told[v], 0)
            self.assertTrue(all(side in (0, 1) and type(side) is int for side in told))
        else:
            self.assertEqual(name, "ring")
            many = len(told)
            self.assertGreaterEqual(many, 3)
            self.assertEqual(many % 2, 1)
            self.assertEqual(len(set(told)), many)
            self.assertTrue(all(are_near(value, told[k], told[(k + 1) % many]) for k in range(many)))
        return name

    def joined(self, value, v, w):
        """Whether a way leads from one vertex to another one."""
        reached = {v}
        for _ in range(value[0]):
            reached |= {x for edge in value[1] for x in edge if set(edge) & reached}
        return w in reached

    def test_by_hand(self):
        self.assertEqual(two_sides((1, ())), ("sides", (0,)))
        self.assertEqual(two_sides((12, ())), ("sides", (0,) * 12))
        self.assertEqual(two_sides(path(5)), ("sides", (0, 1, 0, 1, 0)))
        self.assertEqual(two_sides(ring(12)), ("sides", (0, 1) * 6))
        self.assertEqual(two_sides(graph(6, (1, 5), (2, 3), (3, 4))), ("sides", (0, 0, 0, 1, 0, 1)))
        self.assertEqual(two_sides(graph(5, (1, 4), (2, 4), (0, 3))), ("sides", (0, 0, 0, 1, 1)))
        name, vertices = two_sides(ring(11))
        self.assertEqual((name, sorted(vertices)), ("ring", list(range(11))))

    def test_all_kinds(self):
        names = {}
        for value in some_graphs() + large_graphs() + [PETERSEN, COVERS_62]:
            name = self.check_sides(value)
            names[name] = names.get(name, 0) + 1
            sides = any(all(lot[v] != lot[w] for v, w in value[1]) for lot in product((0, 1), repeat=value[0]))
            self.assertEqual(name == "sides", sides)
        self.assertGreater(min(names.values()), 40)

    def test_odd_rings_far_from_the_least_vertex(self):
        for many in (3, 5, 7):
            tail = 12 - many
            edges = [(k, k + 1) for k in range(11)] + [(tail, 11)]
            value = graph(12, *edges)
            self.assertEqual(self.check_sides(value), "ring")
            self.assertEqual(sorted(two_sides(value)[1]), list(range(tail, 12)))

    def test_a_ring_in_another_part(self):
        value = graph(8, (0, 1), (2, 3), (3, 4), (5, 6), (6, 7), (5, 7))
        self.assertEqual(self.check_sides(value), "ring")
        self.assertEqual(sorted(two_sides(value)[1]), [5, 6, 7])


class CoverTests(unittest.TestCase):

    def test_by_hand(self):
        for value, cover, matching in (
            ((1, ()), (), 0), ((12, ()), (), 0), (path(2), (0,), 1), (path(3), (1,), 1), (path(4), (0, 2), 2),
            (ring(3), (0, 1), 1), (ring(4), (0, 2), 2), (ring(5), (0, 1, 3), 2), (ring(12), (0, 2, 4, 6, 8, 10), 6),
            (full(12), tuple(range(11)), 6), (full(11), tuple(range(10)), 5), (parts(*[2] * 6), (0, 2, 4, 6, 8, 10), 6),
            (graph(12, *[(k, 11) for k in range(11)]), (11,), 1), (PETERSEN, (0, 1, 3, 7, 8, 9), 5),
        ):
            with self.subTest(value):
                self.assertEqual(twice(self, least_cover, value), cover)
                self.assertEqual(twice(self, greatest_matching, value), matching)

    def test_all_sets(self):
        for value in some_graphs() + large_graphs()[:20]:
            covers = covers_of(value)
            self.assertEqual(least_cover(value), min(covers, key=lambda lot: (len(lot), lot)))
            self.assertEqual(greatest_matching(value), matching_of(value[1]))

    def test_large_graphs(self):
        for value in large_graphs():
            covers = covers_of(value)
            self.assertEqual(least_cover(value), min(covers, key=lambda lot: (len(lot), lot)))

    def test_with_sides_the_numbers_are_equal(self):
        random = Random(33)
        for _ in range(60):
            n = random.randint(2, 12)
            sides = [random.randint(0, 1) for _ in range(n)]
            pairs = [(v, w) for v, w in combinations(range(n), 2) if sides[v] != sides[w]]
            value = graph(n, *random.sample(pairs, random.randint(0, len(pairs))))
            self.assertEqual(two_sides(value)[0], "sides")
            self.assertEqual(len(least_cover(value)), greatest_matching(value))


if __name__ == "__main__":
    unittest.main()
