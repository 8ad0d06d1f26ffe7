"""Ideals split into components, and the primes of these.

A component is a tuple of exponents. It stands for the ideal of the powers of
single variables with these exponents; an exponent 0 stands for no power.
"""

from jointneeds.errors import TooMany
from jointneeds.ideals import want_small
from jointneeds.meets import meet_of_rows
from jointneeds.monomials import one_of, support_of

MOST_PARTS = 10


def components(ideal):
    """The least set of components whose meet is an ideal, ascending."""
    want_small(ideal)
    n, generators = ideal
    parts = [one_of(n)]
    for many in range(1, len(generators) + 1):
        parts = parts_with_last(parts, generators[:many])
    return tuple(sorted(parts))


def parts_with_last(parts, generators):
    """The components of an ideal, made of those without its last generator."""
    last = generators[-1]
    kept = [part for part in parts if reasons(part, last)]
    short = [part for part in parts if not reasons(part, last)]
    made = {with_entry(part, k, last[k]) for part in short for k in support_of(last)}
    return kept + [part for part in sorted(made) if is_least_part(part, generators)]


def reasons(part, monomial):
    """The variables whose powers put a monomial into a component's ideal."""
    return [k for k, entry in enumerate(part) if 0 < entry <= monomial[k]]


def with_entry(part, variable, entry):
    """A component with another entry at a variable."""
    return part[:variable] + (entry,) + part[variable + 1:]


def is_least_part(part, generators):
    """Whether no component with a lesser ideal has all the generators.

    A lesser ideal has a greater exponent, or none, at some variable. That
    leaves out a generator just if one lies in the component's ideal through
    this variable alone, and with no exponent to spare.
    """
    bound = {}
    for generator in generators:
        through = reasons(part, generator)
        if len(through) == 1 and generator[through[0]] == part[through[0]]:
            bound[through[0]] = True
    return len(bound) == len(support_of(part))


def ideal_of_components(n, parts):
    """The meet of the ideals that components stand for."""
    if len(parts) > MOST_PARTS:
        raise TooMany(MOST_PARTS)
    return meet_of_rows(n, [powers_of(part) for part in parts])


def powers_of(part):
    """The powers of variables that generate a component's ideal."""
    zeros = one_of(len(part))
    return [with_entry(zeros, k, part[k]) for k in support_of(part)]


def primes(ideal):
    """The supports of all components, each once, ascending."""
    return tuple(sorted({support_of(part) for part in components(ideal)}))


def minimal_primes(ideal):
    """The primes that contain no other one."""
    every = primes(ideal)
    return tuple([prime for prime in every if not contains_other(prime, every)])


def contains_other(prime, others):
    """Whether a prime contains one of the others that is not itself."""
    for other in others:
        if other != prime and all([k in prime for k in other]):
            return True
    return False


def primary_parts(ideal):
    """For each prime, ascending, it and the meet of its components."""
    n, _ = ideal
    rows = {}
    for part in components(ideal):
        rows.setdefault(support_of(part), []).append(powers_of(part))
    return tuple([(prime, meet_of_rows(n, rows[prime])) for prime in sorted(rows)])


def dimension(ideal):
    """The number of variables without those of a least prime; -1 without primes."""
    n, _ = ideal
    every = primes(ideal)
    if not every:
        return -1
    return n - min([len(prime) for prime in every])
