"""Monomials: tuples of exponents, one for each variable."""

MOST_VARIABLES = 12
MOST_EXPONENT = 60


def degree_of(monomial):
    """The sum of the exponents."""
    return sum(monomial)


def support_of(monomial):
    """The variables with a positive exponent, ascending."""
    return tuple([k for k, exponent in enumerate(monomial) if exponent > 0])


def divides(a, b):
    """Whether no exponent of a is greater than that of b."""
    for low, high in zip(a, b):
        if low > high:
            return False
    return True


def lcm_of(a, b):
    """The monomial with the greater exponents."""
    return tuple([max(x, y) for x, y in zip(a, b)])


def gcd_of(a, b):
    """The monomial with the lesser exponents."""
    return tuple([min(x, y) for x, y in zip(a, b)])


def times(a, b):
    """The product of two monomials."""
    return tuple([x + y for x, y in zip(a, b)])


def cut(a, b):
    """a divided by what it has in common with b."""
    return tuple([max(x - y, 0) for x, y in zip(a, b)])


def one_of(n):
    """The monomial 1 in n variables."""
    return (0,) * n


def of_variables(n, variables):
    """The product of some variables, as a monomial in n variables."""
    return tuple([int(k in variables) for k in range(n)])


def all_of_degree(n, degree):
    """All monomials of a degree in n variables, ascending."""
    heads = [((), degree)]
    for _ in range(n - 1):
        heads = [(head + (k,), left - k) for head, left in heads for k in range(left + 1)]
    return [head + (left,) for head, left in heads]


def is_whole(value):
    """Whether any value is an integer; True and False are none."""
    return isinstance(value, int) and not isinstance(value, bool)


def is_exponent(value):
    """Whether any value is an exponent that a monomial may have."""
    return is_whole(value) and 0 <= value <= MOST_EXPONENT


def is_monomial(n, value):
    """Whether any value is a monomial in n variables."""
    if not isinstance(value, tuple) or len(value) != n:
        return False
    return all([is_exponent(exponent) for exponent in value])


def has_divisor(monomial, others):
    """Whether one of the others divides a monomial."""
    for other in others:
        if divides(other, monomial):
            return True
    return False


def least_ones(monomials, most):
    """Those that no other one divides, ascending, but at most the first `most`."""
    found = []
    for monomial in sorted(set(monomials)):
        # A divisor is a lesser tuple, so it has been looked at before.
        if not has_divisor(monomial, found):
            found.append(monomial)
        if len(found) >= most:
            break
    return found
