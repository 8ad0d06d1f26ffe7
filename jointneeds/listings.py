"""Listings of generators whose quotients are simple, and shellings of complexes."""

from jointneeds.choices import needs_by_choices
from jointneeds.errors import NotListing, TooMany
from jointneeds.monomials import cut, degree_of, least_ones, support_of

MOST_LISTED = 7


def quotient_breach(ideal, listing):
    """None for a quotient listing of the generators, and else the least place where it fails."""
    return first_unfit(listing, lambda ahead, k: fits_quotient(ideal, ahead, k))


def quotient_listing(ideal):
    """The least quotient listing of the generators, or None."""
    _, generators = ideal
    return least_listing(len(generators), lambda ahead, k: fits_quotient(ideal, ahead, k))


def needs_by_quotients(ideal, listing):
    """The list of needs that a quotient listing tells."""
    place = quotient_breach(ideal, listing)
    if place is not None:
        raise NotListing(place)
    _, generators = ideal
    rows = []
    for place, k in enumerate(listing):
        quotient = quotient_at(ideal, listing[:place], k)
        rows.append((generators[k], [support_of(monomial)[0] for monomial in quotient]))
    return needs_by_choices(ideal, rows)


def fits_quotient(ideal, ahead, k):
    """Whether generator k may stand in a quotient listing behind some others."""
    _, generators = ideal
    degree = degree_of(generators[k])
    if any([degree_of(generators[j]) > degree for j in ahead]):
        return False
    return all([degree_of(monomial) == 1 for monomial in quotient_at(ideal, ahead, k)])


def quotient_at(ideal, ahead, k):
    """The generators of the ideal that some generators generate, cut by generator k."""
    _, generators = ideal
    return least_ones([cut(generators[j], generators[k]) for j in ahead], len(ahead))


def shelling_breach(facets, listing):
    """None for a shelling, and else the least place where the listing fails."""
    return first_unfit(listing, lambda ahead, k: fits_shelling(facets, ahead, k))


def shelling(facets):
    """The least shelling of a complex, or None."""
    return least_listing(len(facets), lambda ahead, k: fits_shelling(facets, ahead, k))


def fits_shelling(facets, ahead, k):
    """Whether facet k may stand in a shelling behind some others."""
    beyond = [[vertex for vertex in facets[k] if vertex not in facets[j]] for j in ahead]
    single = [vertices[0] for vertices in beyond if len(vertices) == 1]
    return all([any([vertex in single for vertex in vertices]) for vertices in beyond])


def first_unfit(listing, fits):
    """The least place of a listing whose number does not fit those ahead of it, or None."""
    for place, k in enumerate(listing):
        if not fits(listing[:place], k):
            return place
    return None


def least_listing(many, fits):
    """The least listing in which each of so many numbers fits those ahead of it, or None."""
    if many > MOST_LISTED:
        raise TooMany(MOST_LISTED)
    return continued((), many, fits, {})


def continued(ahead, many, fits, closed):
    """The least such listing that begins with the numbers ahead, or None.

    What fits does not hang on the sequence of those ahead; so a set of numbers
    that leads nowhere is closed, in whatever sequence they stand.
    """
    if len(ahead) == many:
        return ahead
    place = tuple(sorted(ahead))
    if place not in closed:
        for k in range(many):
            if k not in ahead and fits(ahead, k):
                found = continued(ahead + (k,), many, fits, closed)
                if found is not None:
                    return found
        closed[place] = True
    return None
