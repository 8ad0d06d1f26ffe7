"""Maps from one resolution of an ideal to another one."""

from jointneeds.columns import column_of_vector, image_of, is_column, vector_of_column
from jointneeds.monomials import divides
from jointneeds.resolutions import level_at
from jointneeds.spaces import solution

START = (((0, 1),),)


def lifted(first, second, prime):
    """Maps from each level of the first resolution to the same level of the second one."""
    maps = [START]
    for place in range(1, len(first)):
        degrees, columns = first[place]
        over = []
        for degree, column in zip(degrees, columns):
            wanted = image_of(column, maps[-1], prime)
            over.append(lifted_column(degree, wanted, level_at(second, place), prime))
        maps.append(tuple(over))
    return tuple(maps)


def lifted_column(degree, wanted, level, prime):
    """A column over a level whose image is the wanted vector, at a degree."""
    degrees, columns = level
    fitting = [r for r, other in enumerate(degrees) if divides(other, degree)]
    found = solution([vector_of_column(columns[r]) for r in fitting], wanted, prime)
    return column_of_vector({fitting[k]: found[k] for k in found})


def is_lifted(first, second, prime, value):
    """Whether any value is a tuple of such maps."""
    if not isinstance(value, tuple) or len(value) != len(first):
        return False
    for place, over in enumerate(value):
        if not is_over(first[place], level_at(second, place), prime, over):
            return False
    if value[0] != START:
        return False
    return all([agrees(first, second, prime, value, place) for place in range(1, len(first))])


def is_over(level, other, prime, value):
    """Whether any value has the form of a map from a level over another one."""
    degrees, _ = level
    theirs, _ = other
    if not isinstance(value, tuple) or len(value) != len(degrees):
        return False
    return all([is_column(column, degree, theirs, prime) for column, degree in zip(value, degrees)])


def agrees(first, second, prime, maps, place):
    """Whether it is the same to go down from a level first, and to go over first."""
    _, columns = first[place]
    _, theirs = level_at(second, place)
    for column, over in zip(columns, maps[place]):
        if image_of(column, maps[place - 1], prime) != image_of(over, theirs, prime):
            return False
    return True
