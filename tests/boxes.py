"""Helpers that decide about ideals by asking of every monomial of a box.

Nothing here uses the program: what it returns is compared with this.
"""

from itertools import product


def box(n, top):
    """All monomials in n variables with exponents from 0 to top."""
    return list(product(range(top + 1), repeat=n))


def under(a, b):
    """Whether monomial a divides monomial b."""
    return all(x <= y for x, y in zip(a, b))


def lies(generators, monomial):
    """Whether a monomial is a multiple of one of the generators."""
    return any(under(generator, monomial) for generator in generators)


def plus(a, b):
    """The product of two monomials."""
    return tuple(x + y for x, y in zip(a, b))


def minus(a, b):
    """The quotient of two monomials, the second of which divides the first."""
    return tuple(x - y for x, y in zip(a, b))


def divisors(monomial):
    """All monomials that divide a monomial."""
    return list(product(*[range(exponent + 1) for exponent in monomial]))


def lies_in_product(ours, theirs, monomial):
    """Whether a monomial is one of the first times one of the second."""
    return any(
        lies(ours, part) and lies(theirs, minus(monomial, part))
        for part in divisors(monomial)
    )


def lies_in_power(generators, k, monomial):
    """Whether a monomial is a product of k monomials of an ideal."""
    if k == 0:
        return True
    return any(
        lies(generators, part) and lies_in_power(generators, k - 1, minus(monomial, part))
        for part in divisors(monomial)
    )


def all_ideals(n, top):
    """All ideals in n variables whose generators have exponents up to top."""
    found = []

    def extend(chosen, rest):
        found.append((n, tuple(chosen)))
        for k, monomial in enumerate(rest):
            if not any(under(a, monomial) or under(monomial, a) for a in chosen):
                extend(chosen + [monomial], rest[k + 1:])

    extend([], box(n, top))
    return found


def stair(degree):
    """All monomials in two variables of a degree: one more than the degree."""
    return tuple((k, degree - k) for k in range(degree + 1))


def placed(n, variables, monomials):
    """Monomials in few variables, told as monomials in n, at the variables."""
    result = []
    for monomial in monomials:
        exponents = [0] * n
        for variable, exponent in zip(variables, monomial):
            exponents[variable] = exponent
        result.append(tuple(exponents))
    return result


def ideal(n, generators):
    """An ideal of generators that are least ones, in whatever sequence."""
    return (n, tuple(sorted(generators)))


def is_plain(value):
    """Whether a value is an integer, string, True, False, None or tuple of such."""
    if type(value) is tuple:
        return all(is_plain(entry) for entry in value)
    return value is None or type(value) in (int, str, bool)


def limit_raised(test, error, call, *arguments):
    """Check that a call raises just this error, with the limit 60."""
    with test.assertRaises(error) as caught:
        call(*arguments)
    test.assertIs(type(caught.exception), error)
    test.assertEqual(caught.exception.limit, 60)
