"""Resolutions of the ring modulo an ideal, over a prime above 0.

A resolution is a tuple of levels; each level has a tuple of degrees and a
tuple of the columns over the level ahead.
"""

from jointneeds.columns import column_of_vector, image_of, is_column, vector_of_column
from jointneeds.complexes import all_faces
from jointneeds.errors import NotResolution, TooMany
from jointneeds.holes import boundary_columns
from jointneeds.ideals import contains, want_small
from jointneeds.monomials import divides, is_monomial, lcm_of, one_of
from jointneeds.spaces import inverse, rank_of, subtract

MOST_LEVELS = 10
MOST_IN_LEVEL = 60
MOST_POINTS = 600
MOST_LOTS = 6


def resolution_breach(ideal, prime, value):
    """None for a resolution of the ring modulo an ideal, and else the first broken rule."""
    want_small(ideal)
    place = first_without_form(ideal, prime, value)
    if place is not None:
        return ("form", place)
    place = first_without_square(prime, value)
    if place is not None:
        return ("square", place)
    place = first_not_filled(ideal, prime, value)
    if place is not None:
        return ("filled", place)
    return None


def check_resolution(ideal, prime, value):
    """The value itself if it is a resolution; else NotResolution is raised."""
    broken = resolution_breach(ideal, prime, value)
    if broken is not None:
        rule, place = broken
        raise NotResolution(rule, place)
    return value


def first_without_form(ideal, prime, value):
    """The first level of any value that has not the form of one, -1, or None."""
    n, _ = ideal
    if not isinstance(value, tuple) or not 1 <= len(value) <= MOST_LEVELS:
        return -1
    lower = ()
    for place, level in enumerate(value):
        if not is_level(n, prime, level, lower):
            return place
        lower, _ = level
        if place == 0 and lower != (one_of(n),):
            return place
    return None


def is_level(n, prime, value, lower):
    """Whether any value has the form of a level over one with the lower degrees."""
    if not isinstance(value, tuple) or len(value) != 2:
        return False
    degrees, columns = value
    if not isinstance(degrees, tuple) or not isinstance(columns, tuple):
        return False
    if len(degrees) != len(columns) or not 1 <= len(degrees) <= MOST_IN_LEVEL:
        return False
    if not all([is_monomial(n, degree) for degree in degrees]):
        return False
    return all([is_column(column, degree, lower, prime) for degree, column in zip(degrees, columns)])


def first_without_square(prime, levels):
    """The first level from which two steps do not lead to 0, or None."""
    for place in range(2, len(levels)):
        _, lower = levels[place - 1]
        _, columns = levels[place]
        for column in columns:
            if image_of(column, lower, prime):
                return place
    return None


def first_not_filled(ideal, prime, levels):
    """The first level whose kernel is not the next one's image somewhere, or None."""
    # Between these monomials nothing changes, as far as what divides them goes.
    points = points_of(exponents_told(ideal, levels))
    ranks = Ranks(levels, prime)
    places = []
    for point in points:
        wanted = int(contains(ideal, point))
        place = first_not_filled_at(point, wanted, ranks)
        if place is not None:
            places.append(place)
    return min(places, default=None)


def exponents_told(ideal, levels):
    """For each variable the different exponents in degrees and generators."""
    n, generators = ideal
    monomials = list(generators)
    for degrees, _ in levels:
        monomials.extend(degrees)
    return [sorted({monomial[k] for monomial in monomials}) for k in range(n)]


def points_of(rows):
    """All monomials with an exponent of each row, if they are not too many."""
    many = 1
    for row in rows:
        many = many * len(row)
    if many > MOST_POINTS:
        raise TooMany(MOST_POINTS)
    points = [()]
    for row in rows:
        points = [point + (exponent,) for point in points for exponent in row]
    return points


def first_not_filled_at(point, wanted, ranks):
    """The first level that is not filled at a monomial, or None.

    The image of level 1 has to have the wanted dimension there.
    """
    for place in range(len(ranks.levels)):
        many, rank = ranks.told(place + 1, point)
        if rank != wanted:
            return place
        wanted = many - rank
    return None


class Ranks:
    """The dimensions of the images of levels at monomials, each worked out once."""

    def __init__(self, levels, prime):
        self.levels = levels
        self.prime = prime
        self.known = {}

    def told(self, place, point):
        """How many basis elements a level has at a monomial, and the dimension of its image."""
        degrees, columns = level_at(self.levels, place)
        there = tuple([k for k, degree in enumerate(degrees) if divides(degree, point)])
        if (place, there) not in self.known:
            self.known[(place, there)] = rank_of([vector_of_column(columns[k]) for k in there], self.prime)
        return (len(there), self.known[(place, there)])


def level_at(levels, place):
    """A level; behind the last one there are only empty ones."""
    if place < len(levels):
        return levels[place]
    return ((), ())


def lots_resolution(ideal, prime):
    """The resolution whose basis elements are the sets of generators."""
    want_small(ideal)
    n, generators = ideal
    if len(generators) > MOST_LOTS:
        raise TooMany(MOST_LOTS)
    rows = all_faces((tuple(range(len(generators))),))
    levels = [((one_of(n),), ((),))]
    for place in range(1, len(rows)):
        degrees = [multiple_of(n, [generators[k] for k in lot]) for lot in rows[place]]
        columns = boundary_columns(rows[place], rows[place - 1], prime)
        levels.append((tuple(degrees), tuple([column_of_vector(column) for column in columns])))
    return tuple(levels)


def multiple_of(n, monomials):
    """The least common multiple of some monomials."""
    found = one_of(n)
    for monomial in monomials:
        found = lcm_of(found, monomial)
    return found


def is_least(levels):
    """Whether no column of a resolution has an entry whose two degrees are equal."""
    for place in range(1, len(levels)):
        lower, _ = levels[place - 1]
        degrees, columns = levels[place]
        for degree, column in zip(degrees, columns):
            if any([lower[r] == degree for r, _ in column]):
                return False
    return True


def trimmed(levels, prime):
    """A least resolution, made of a resolution by taking out pairs of equal degree."""
    tables = [{j: vector_of_column(column) for j, column in enumerate(columns)} for _, columns in levels]
    for place in range(1, len(levels)):
        pair = equal_pair(levels, tables, place)
        while pair is not None:
            take_out(tables, place, pair, prime)
            pair = equal_pair(levels, tables, place)
    return gathered(levels, tables)


def equal_pair(levels, tables, place):
    """The first (j, r) such that column j of a level has an entry of equal degree at r, or None."""
    lower, _ = levels[place - 1]
    degrees, _ = levels[place]
    for j in sorted(tables[place]):
        for r in sorted(tables[place][j]):
            if degrees[j] == lower[r]:
                return (j, r)
    return None


def take_out(tables, place, pair, prime):
    """Take basis element j out of a level and r out of the level ahead."""
    j, r = pair
    column = tables[place].pop(j)
    factor = inverse(column[r], prime)
    for other in list(tables[place].values()):
        if r in other:
            subtract(other, other[r] * factor, column, prime)
    del tables[place - 1][r]
    if place + 1 < len(tables):
        for other in list(tables[place + 1].values()):
            other.pop(j, None)


def gathered(levels, tables):
    """The levels with those basis elements that are left, numbered anew."""
    found = []
    numbers = {}
    for (degrees, _), table in zip(levels, tables):
        lower = numbers
        left = sorted(table)
        numbers = {j: number for number, j in enumerate(left)}
        columns = [column_of_vector({lower[r]: table[j][r] for r in table[j]}) for j in left]
        if left:
            found.append((tuple([degrees[j] for j in left]), tuple(columns)))
    return tuple(found)


def least_resolution(ideal, prime):
    """A least resolution, made of the one by lots."""
    return trimmed(lots_resolution(ideal, prime), prime)


def needs_of(levels):
    """The triples of a level, a degree, and the number of its basis elements, ascending."""
    numbers = {}
    for place, (degrees, _) in enumerate(levels):
        for degree in degrees:
            numbers[(place, degree)] = numbers.get((place, degree), 0) + 1
    return tuple(sorted([(place, degree, numbers[(place, degree)]) for place, degree in numbers]))
