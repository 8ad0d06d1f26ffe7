"""Lists of needs that choices of variables tell."""

from itertools import combinations

from jointneeds.monomials import of_variables, times
from jointneeds.needs import listed


def needs_by_choices(ideal, rows):
    """The list of needs that pairs of a generator and a list of variables tell.

    For each choice of i of the variables there is a basis element at step
    i + 1, at the product of the generator and these variables.
    """
    n, _ = ideal
    numbers = {}
    for generator, variables in rows:
        for count in range(len(variables) + 1):
            for choice in combinations(variables, count):
                place = (count + 1, times(generator, of_variables(n, choice)))
                numbers[place] = numbers.get(place, 0) + 1
    return listed(ideal, [(i, m, numbers[(i, m)]) for i, m in numbers])
