"""How rows of left over numbers may grow, and the ideals of first words that have them."""

from math import comb

from jointneeds.counts import count_by_row, graded_numerator, want_few_of_degree
from jointneeds.errors import NotGrowth
from jointneeds.ideals import ideal_of
from jointneeds.monomials import all_of_degree


def binomial_row(a, d):
    """The upper numbers of the binomial coefficients with lower ones d, d - 1, .. that sum up to a."""
    row = []
    left = a
    above = a + d
    for lower in range(d, 0, -1):
        if left == 0:
            break
        above = greatest_upper(left, lower, above)
        row.append(above)
        left -= comb(above, lower)
    return tuple(row)


def greatest_upper(a, lower, above):
    """The greatest k with C(k, lower) at most a; it is less than a given number."""
    low = lower
    high = above
    while high - low > 1:
        middle = (low + high) // 2
        if comb(middle, lower) <= a:
            low = middle
        else:
            high = middle
    return low


def grown(a, d):
    """The sum of binomial_row with all upper and lower numbers raised by 1."""
    return sum([comb(k + 1, d - place + 1) for place, k in enumerate(binomial_row(a, d))])


def growth_breach(n, row):
    """None for a row of left over numbers in n variables, and else the least index that breaks it."""
    for place, entry in enumerate(row):
        if not 0 <= entry <= most_at(n, row, place):
            return place
    return None


def most_at(n, row, place):
    """The greatest entry that a row may have at a place, by those ahead of it."""
    if place == 0:
        return 1
    if row[0] == 0:
        return 0
    if place == 1:
        return n
    return grown(row[place - 1], place - 1)


def first_words(n, row):
    """The ideal that leaves over the first monomials of each degree, as many as a row tells."""
    place = growth_breach(n, row)
    if place is not None:
        raise NotGrowth(place)
    want_few_of_degree(n, len(row) - 1)
    monomials = []
    for degree, entry in enumerate(row):
        # The generators of less degree leave over the first ones up to the most
        # that is let; so just those between are new generators.
        monomials.extend(all_of_degree(n, degree)[entry:most_at(n, row, degree)])
    return ideal_of(n, monomials)


def first_words_like(ideal, top):
    """The ideal of first words with an ideal's left over numbers of degrees up to the top."""
    n, _ = ideal
    numerators = graded_numerator(ideal)
    return first_words(n, [count_by_row(n, numerators, degree) for degree in range(top + 1)])
