"""The holes of complexes, and chains with what they bound."""

from jointneeds.complexes import all_faces
from jointneeds.errors import NotCycle, TooMany
from jointneeds.spaces import Span, residue, solution

MOST_FACES = 300


def holes(facets, prime):
    """The dimensions of the reduced homology of a complex, from dimension -1 on."""
    return numbers_of_holes(limited_faces(facets), prime)


def limited_faces(facets):
    """The lists of all faces by their numbers of vertices, if they are not too many."""
    rows = all_faces(facets)
    if sum([len(row) for row in rows]) > MOST_FACES:
        raise TooMany(MOST_FACES)
    return rows


def numbers_of_holes(rows, prime):
    """The holes of a complex whose faces are given by their numbers of vertices."""
    numbers = [len(row) for row in rows]
    skipped = {}
    for k in range(len(rows) - 1, 0, -1):
        columns = boundary_columns(rows[k], rows[k - 1], prime)
        span = Span(prime)
        for place, column in enumerate(columns):
            # A boundary that ends with this face is a cycle; so the face's own
            # boundary comes of those of faces ahead of it, and adds nothing.
            if place not in skipped:
                span.take_in(column)
        numbers[k] -= span.dimension()
        numbers[k - 1] -= span.dimension()
        skipped = span.basis
    return tuple(numbers)


def signed_parts(face):
    """The faces without one vertex each, with the signs of the boundary."""
    return [(face[:k] + face[k + 1:], 1 - 2 * (k % 2)) for k in range(len(face))]


def boundary_columns(faces, lesser, prime):
    """The boundaries of faces as vectors, by the numbers of the faces with a vertex less."""
    places = {face: place for place, face in enumerate(lesser)}
    columns = []
    for face in faces:
        columns.append({places[part]: residue(sign, prime) for part, sign in signed_parts(face)})
    return columns


def boundary(chain, prime):
    """The chain that is the boundary of a chain modulo a prime."""
    sums = {}
    for face, coefficient in chain:
        for part, sign in signed_parts(face):
            sums[part] = residue(sums.get(part, 0) + sign * coefficient, prime)
    return tuple([(part, sums[part]) for part in sorted(sums) if sums[part] != 0])


def is_cycle(chain, prime):
    """Whether the boundary of a chain is the empty chain."""
    return boundary(chain, prime) == ()


def filling(facets, chain, prime):
    """A chain whose boundary is a cycle, or None."""
    equal, larger = faces_around(facets, chain, prime)
    columns = boundary_columns(larger, equal, prime)
    return chain_of(larger, solution(columns, vector_of(chain, equal), prime))


def counter(facets, chain, prime):
    """A cochain that shows that there is no filling of a cycle, or None."""
    equal, larger = faces_around(facets, chain, prime)
    # Of each face with as many vertices: where it stands in the boundaries of
    # the larger ones, and behind these in the chain itself.
    rows = [{} for _ in equal]
    columns = boundary_columns(larger, equal, prime) + [vector_of(chain, equal)]
    for number, column in enumerate(columns):
        for place in column:
            rows[place][number] = column[place]
    return chain_of(equal, solution(rows, {len(larger): 1}, prime))


def faces_around(facets, chain, prime):
    """The faces with as many vertices as a cycle's, and those with one more."""
    rows = limited_faces(facets)
    size = max([len(face) for face, _ in chain], default=0)
    equal = row_at(rows, size)
    if not all([face in equal for face, _ in chain]) or not is_cycle(chain, prime):
        raise NotCycle("not a cycle of faces of the complex")
    return (equal, row_at(rows, size + 1))


def row_at(rows, size):
    """The faces with a number of vertices; there are none beyond the largest ones."""
    if size < len(rows):
        return rows[size]
    return []


def vector_of(chain, faces):
    """A chain as a vector, by the numbers of its faces."""
    return {faces.index(face): coefficient for face, coefficient in chain}


def chain_of(faces, vector):
    """The chain that a vector over the numbers of ascending faces tells; None for None."""
    if vector is None:
        return None
    return tuple([(faces[place], vector[place]) for place in sorted(vector)])
