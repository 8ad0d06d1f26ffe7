"""Columns: the images of basis elements, as ascending pairs (r, coefficient)."""

from jointneeds.monomials import divides, is_whole
from jointneeds.spaces import subtract


def is_column(value, degree, degrees, prime):
    """Whether any value is a column of a degree over basis elements of degrees."""
    if not isinstance(value, tuple):
        return False
    if not all([is_entry(entry, degree, degrees, prime) for entry in value]):
        return False
    return all([low[0] < high[0] for low, high in zip(value, value[1:])])


def is_entry(value, degree, degrees, prime):
    """Whether any value is a pair that such a column may have."""
    if not isinstance(value, tuple) or len(value) != 2:
        return False
    r, coefficient = value
    if not is_whole(r) or not 0 <= r < len(degrees):
        return False
    if not is_whole(coefficient) or not 0 < coefficient < prime:
        return False
    return divides(degrees[r], degree)


def vector_of_column(column):
    """A column as a vector, by the numbers of the basis elements."""
    return {r: coefficient for r, coefficient in column}


def column_of_vector(vector):
    """A vector as a column."""
    return tuple([(r, vector[r]) for r in sorted(vector)])


def image_of(column, columns, prime):
    """The vector to which a map, told by its columns, takes what a column tells."""
    sums = {}
    for r, coefficient in column:
        subtract(sums, -coefficient, vector_of_column(columns[r]), prime)
    return sums
