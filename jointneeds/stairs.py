"""Ideals in two variables: their stairs, corners, and what they are closed up to."""

from jointneeds.errors import NotTwo
from jointneeds.ideals import ideal_of
from jointneeds.monomials import lcm_of


def want_two(ideal):
    """Raise NotTwo unless an ideal is one in two variables."""
    n, _ = ideal
    if n != 2:
        raise NotTwo("the number of variables is not 2")


def stairs(ideal):
    """The least common multiples of neighbouring generators."""
    want_two(ideal)
    _, generators = ideal
    return tuple([lcm_of(one, other) for one, other in zip(generators, generators[1:])])


def hull_corners(ideal):
    """The generators that are alone the least ones for some weights above 0."""
    want_two(ideal)
    _, generators = ideal
    corners = []
    for point in generators:
        while len(corners) > 1 and not is_corner(corners[-2], corners[-1], point):
            corners.pop()
        corners.append(point)
    return tuple(corners)


def is_corner(before, point, behind):
    """Whether a generator lies below the line between two others, one on each side."""
    (left, top), (a, b), (right, bottom) = before, point, behind
    return (top - b) * (right - left) > (top - bottom) * (a - left)


def closed_up(ideal):
    """The ideal of the monomials some power of which lies in the same power of an ideal."""
    corners = hull_corners(ideal)
    points = list(corners)
    for before, behind in zip(corners, corners[1:]):
        points.extend(points_between(before, behind))
    return ideal_of(2, points)


def points_between(before, behind):
    """For each first exponent between two corners the lowest monomial not below their line."""
    (left, top), (right, bottom) = before, behind
    return [(a, top - (top - bottom) * (a - left) // (right - left)) for a in range(left + 1, right)]
