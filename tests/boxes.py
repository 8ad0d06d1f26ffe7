"""Helpers that decide about ideals by asking of every monomial of a box.

Of complexes they ask of every set of vertices, of maps of every entry.
Nothing here uses the program but its errors: what it returns is compared with this.
"""

from fractions import Fraction
from itertools import combinations, product
from random import Random

from jointneeds.errors import TooMany


def box(n, top):
    """All monomials in n variables with exponents from 0 to top."""
    return list(product(range(top + 1), repeat=n))


def under(a, b):
    """Whether monomial a divides monomial b."""
    return all(x <= y for x, y in zip(a, b))


def lies(generators, monomial):
    """Whether a monomial is a multiple of one of the generators."""
    return any(under(generator, monomial) for generator in generators)


def plus(a, b):
    """The product of two monomials."""
    return tuple(x + y for x, y in zip(a, b))


def minus(a, b):
    """The quotient of two monomials, the second of which divides the first."""
    return tuple(x - y for x, y in zip(a, b))


def divisors(monomial):
    """All monomials that divide a monomial."""
    return list(product(*[range(exponent + 1) for exponent in monomial]))


def lies_in_product(ours, theirs, monomial):
    """Whether a monomial is one of the first times one of the second."""
    return any(
        lies(ours, part) and lies(theirs, minus(monomial, part))
        for part in divisors(monomial)
    )


def lies_in_power(generators, k, monomial):
    """Whether a monomial is a product of k monomials of an ideal."""
    if k == 0:
        return True
    return any(
        lies(generators, part) and lies_in_power(generators, k - 1, minus(monomial, part))
        for part in divisors(monomial)
    )


def all_ideals(n, top):
    """All ideals in n variables whose generators have exponents up to top."""
    found = []

    def extend(chosen, rest):
        found.append((n, tuple(chosen)))
        for k, monomial in enumerate(rest):
            if not any(under(a, monomial) or under(monomial, a) for a in chosen):
                extend(chosen + [monomial], rest[k + 1:])

    extend([], box(n, top))
    return found


def stair(degree):
    """All monomials in two variables of a degree: one more than the degree."""
    return tuple((k, degree - k) for k in range(degree + 1))


def placed(n, variables, monomials):
    """Monomials in few variables, told as monomials in n, at the variables."""
    result = []
    for monomial in monomials:
        exponents = [0] * n
        for variable, exponent in zip(variables, monomial):
            exponents[variable] = exponent
        result.append(tuple(exponents))
    return result


def ideal(n, generators):
    """An ideal of generators that are least ones, in whatever sequence."""
    return (n, tuple(sorted(generators)))


def is_plain(value):
    """Whether a value is an integer, string, True, False, None or tuple of such."""
    if type(value) is tuple:
        return all(is_plain(entry) for entry in value)
    return value is None or type(value) in (int, str, bool)


def limit_raised(test, error, call, *arguments):
    """Check that a call raises just this error, with the limit 60."""
    with test.assertRaises(error) as caught:
        call(*arguments)
    test.assertIs(type(caught.exception), error)
    test.assertEqual(caught.exception.limit, 60)


def error_raised(test, error, told, call, *arguments):
    """Check that a call raises just this error, with these attributes and no others."""
    with test.assertRaises(error) as caught:
        call(*arguments)
    test.assertIs(type(caught.exception), error)
    for name, value in told.items():
        found = getattr(caught.exception, name)
        test.assertEqual(found, value)
        test.assertIs(type(found), type(value))


def twice(test, call, *arguments):
    """Check that two calls return the same plain value; return it."""
    first = call(*arguments)
    test.assertEqual(first, call(*arguments))
    test.assertTrue(is_plain(first))
    return first


def variable(n, k):
    """Variable number k as a monomial in n variables."""
    return tuple(int(j == k) for j in range(n))


def squarefree(n, *supports):
    """The ideal in n variables of the products of some variables each."""
    return ideal(n, [tuple(int(k in support) for k in range(n)) for support in supports])


def subsets(items):
    """All ascending tuples of some of the items."""
    items = sorted(items)
    return [face for size in range(len(items) + 1) for face in combinations(items, size)]


def faces_under(facets):
    """The set of all faces of a complex."""
    return {face for facet in facets for face in subsets(facet)}


def greatest(faces):
    """The ascending tuple of those faces that are in no other one."""
    return tuple(sorted(f for f in faces if not any(set(f) < set(g) for g in faces)))


def all_complexes(v):
    """The facets of all complexes with v vertices."""
    found = []

    def extend(chosen, rest):
        found.append(tuple(sorted(chosen)))
        for k, face in enumerate(rest):
            if not any(set(f) <= set(face) or set(face) <= set(f) for f in chosen):
                extend(chosen + [face], rest[k + 1:])

    extend([], subsets(range(v)))
    return found


def rank(rows, prime):
    """The rank of a list of equally long lists of integers over a field."""
    rows = [[Fraction(x) if prime == 0 else x % prime for x in row] for row in rows]
    found = 0
    for column in range(len(rows[0]) if rows else 0):
        pivot = next((k for k in range(found, len(rows)) if rows[k][column]), None)
        if pivot is None:
            continue
        rows[found], rows[pivot] = rows[pivot], rows[found]
        head = rows[found]
        inverse = 1 / head[column] if prime == 0 else pow(head[column], -1, prime)
        for k in range(found + 1, len(rows)):
            factor = rows[k][column] * inverse
            rows[k] = [x - factor * y for x, y in zip(rows[k], head)]
            if prime:
                rows[k] = [x % prime for x in rows[k]]
        found += 1
    return found


def holes_by_ranks(facets, prime):
    """The holes of a complex, from the ranks of its whole boundary matrices."""
    faces = faces_under(facets)
    if not faces:
        return ()
    rows = [sorted(f for f in faces if len(f) == size) for size in range(max(map(len, faces)) + 1)]
    ranks = [0]
    for lower, upper in zip(rows, rows[1:]):
        matrix = []
        for face in upper:
            entries = {face[:k] + face[k + 1:]: (-1) ** k for k in range(len(face))}
            matrix.append([entries.get(part, 0) for part in lower])
        ranks.append(rank(matrix, prime))
    ranks.append(0)
    return tuple(len(row) - ranks[k] - ranks[k + 1] for k, row in enumerate(rows))


# The projective plane with six vertices; and with eight, as eight faces with up to five.
PLANE = ((0, 1, 2), (0, 1, 3), (0, 2, 4), (0, 3, 5), (0, 4, 5), (1, 2, 5), (1, 3, 4), (1, 4, 5), (2, 3, 4), (2, 3, 5))
FLAT_PLANE = ((0, 1, 3, 6), (0, 2, 4, 6), (0, 3, 5), (0, 4, 5, 7), (1, 2, 5, 6, 7), (1, 3, 4, 7), (2, 3, 4), (2, 3, 5))


# The ideal whose sets of generators below the product of all variables make the plane of eight vertices.
FLAT = ideal(8, [tuple(int(k not in facet) for facet in FLAT_PLANE) for k in range(8)])


def band(outer, inner, times):
    """Triangles between two rings of three, of which the outer one is gone around so many times."""
    found = []
    for k in range(3):
        steps = [outer[(times * k + j) % 3] for j in range(times + 1)]
        found.extend((a, b, inner[k]) for a, b in zip(steps, steps[1:]))
        found.append((steps[-1], inner[k], inner[(k + 1) % 3]))
    return found


def rings(last, times):
    """Rings a, b, c with b = 2a, c = 2b, and with times c = a, told in the sequence of `last`."""
    a, b, c = (0, 1, 2), (3, 4, 5), (6, 7, 8)
    triangles = band(a, b, 2) + band(b, c, 2) + band(c, last, times)
    return tuple(sorted(tuple(sorted(triangle)) for triangle in triangles))


class LikeNothing:
    """A value of a kind that the program does not know."""


CORNER = (2, ((0, 3), (1, 1), (2, 0)))


def start(n):
    """Level 0 of every resolution."""
    return (((0,) * n,), ((),))


# A least resolution of CORNER over 3, and the one by lots.
LEAST = (
    start(2),
    (((0, 3), (1, 1), (2, 0)), (((0, 1),), ((0, 1),), ((0, 1),))),
    (((1, 3), (2, 1)), (((0, 1), (1, 2)), ((1, 1), (2, 2)))),
)
LOTS = (
    start(2),
    (((0, 3), (1, 1), (2, 0)), (((0, 1),), ((0, 1),), ((0, 1),))),
    (((1, 3), (2, 3), (2, 1)), (((0, 2), (1, 1)), ((0, 2), (2, 1)), ((1, 2), (2, 1)))),
    (((2, 3),), (((0, 1), (1, 2), (2, 1)),)),
)


def six_at_most():
    """Proper ideals with at most six generators: all of some boxes, and some others."""
    random = Random(8)
    found = all_ideals(1, 2) + all_ideals(2, 2) + all_ideals(3, 1)
    for _ in range(40):
        n = random.randint(2, 4)
        monomials = {tuple(random.randint(0, 2) for _ in range(n)) for _ in range(random.randint(1, 6))}
        found.append(ideal(n, [m for m in monomials if not lies(monomials - {m}, m)]))
    return [(n, generators) for n, generators in found if (0,) * n not in generators]


def dense(columns, height):
    """Columns of pairs (r, coefficient) as full lists of so many entries."""
    rows = []
    for column in columns:
        entries = dict(column)
        rows.append([entries.get(r, 0) for r in range(height)])
    return rows


def combined(columns, others, prime):
    """Full lists: what columns become by a map that the others tell."""
    width = len(others[0]) if others else 0
    return [[sum(a * other[t] for a, other in zip(column, others)) % prime for t in range(width)]
            for column in columns]


def lcm(monomials, n):
    """The least common multiple of monomials in n variables."""
    return tuple(max([m[k] for m in monomials] + [0]) for k in range(n))


def resolves(value, prime, levels):
    """Whether well-formed levels are a resolution of the ring modulo an ideal: asked at every monomial of a box.

    The box goes as far as the exponents of the generators and the degrees do.
    """
    n, generators = value
    far = lcm(list(generators) + [degree for degrees, _ in levels for degree in degrees], n)
    full = [dense(columns, len(levels[k - 1][0]) if k else 0) for k, (_, columns) in enumerate(levels)]
    for lower, upper in zip(full[1:], full[2:]):
        if any(map(any, combined(upper, lower, prime))):
            return False
    for m in divisors(far):
        there = [[k for k, degree in enumerate(degrees) if under(degree, m)] for degrees, _ in levels]
        ranks = [rank([full[i][k] for k in there[i]], prime) for i in range(len(levels))] + [0]
        kernels = [len(there[i]) - ranks[i] for i in range(len(levels))]
        kernels[0] = int(lies(generators, m))
        if kernels != ranks[1:]:
            return False
    return True


def of_degree(n, degree):
    """All monomials of a degree in n variables, ascending."""
    return [m for m in product(range(degree + 1), repeat=n) if sum(m) == degree]


def signs_of_lots(value):
    """The sums of the signs of the sets of generators, at their least common multiples."""
    n, generators = value
    sums = {}
    for lot in subsets(range(len(generators))):
        m = lcm([generators[k] for k in lot], n)
        sums[m] = sums.get(m, 0) + (-1) ** len(lot)
    return {m: number for m, number in sums.items() if number}


def small_wanted(test, call, *more):
    """Check that a call raises TooMany(8), and then TooMany(10), for ideals that are not small."""
    for value in ((9, ()), (9, ((0,) * 9,)), (12, ((1,) * 12,)), ideal(9, placed(9, (0, 1), stair(10))),
                  (12, tuple(variable(12, k) for k in range(11, -1, -1)))):
        error_raised(test, TooMany, {"limit": 8}, call, value, *more)
    for value in ((2, stair(10)), (2, stair(59)), ideal(8, placed(8, (0, 7), stair(10)))):
        error_raised(test, TooMany, {"limit": 10}, call, value, *more)


def needs_of_steps(value, variables_of):
    """The list of needs with one basis element for each generator and each choice of its variables."""
    n, generators = value
    sums = {(0, (0,) * n): 1}
    for g in generators:
        for choice in subsets(variables_of(g)):
            place = (len(choice) + 1, plus(g, tuple(int(k in choice) for k in range(n))))
            sums[place] = sums.get(place, 0) + 1
    return tuple(sorted((i, m, number) for (i, m), number in sums.items()))


def ahead_of_last(monomial):
    """The variables less than the greatest one in a monomial."""
    return range(max(k for k, exponent in enumerate(monomial) if exponent))


def kept(test, call, *arguments):
    """Check that a call changes none of its lists; return what it returns."""
    before = repr(arguments)
    result = call(*arguments)
    test.assertEqual(repr(arguments), before)
    return result
