"""Ideals written as texts, and read from them."""

from jointneeds.errors import NotText
from jointneeds.ideals import MOST_GENERATORS, ideal_of
from jointneeds.monomials import MOST_EXPONENT, MOST_VARIABLES, one_of, support_of


def written(ideal):
    """The text of an ideal."""
    n, generators = ideal
    head = f"{n}:"
    if not generators:
        return head
    words = [written_monomial(generator) for generator in generators]
    return head + " " + ", ".join(words)


def written_monomial(monomial):
    """The text of a monomial."""
    powers = [written_power(k, monomial[k]) for k in support_of(monomial)]
    if not powers:
        return "1"
    return "*".join(powers)


def written_power(variable, exponent):
    """The text of a power of a variable; an exponent 1 is left out."""
    if exponent == 1:
        return f"x{variable}"
    return f"x{variable}^{exponent}"


def read_ideal(text):
    """The ideal that the monomials of a text generate."""
    reader = Reader(text)
    n = reader.number(list(range(1, MOST_VARIABLES + 1)))
    reader.need(":")
    monomials = []
    if not reader.is_done():
        reader.need(" ")
        monomials.append(read_monomial(reader, n))
    while not reader.is_done():
        if len(monomials) == MOST_GENERATORS:
            raise NotText(reader.at)
        reader.need(",")
        reader.need(" ")
        monomials.append(read_monomial(reader, n))
    return ideal_of(n, monomials)


def read_monomial(reader, n):
    """The monomial that comes next."""
    if reader.takes("1"):
        return one_of(n)
    exponents = [0] * n
    variable = read_power(reader, exponents, 0)
    # Behind the last variable no greater one can follow.
    while variable < n - 1 and reader.takes("*"):
        variable = read_power(reader, exponents, variable + 1)
    return tuple(exponents)


def read_power(reader, exponents, least):
    """Put the exponent of the variable that comes next where it belongs.

    Variables less than the least one are not let. The variable is returned.
    """
    reader.need("x")
    variable = reader.number(list(range(least, len(exponents))))
    exponent = 1
    if reader.takes("^"):
        exponent = reader.number(list(range(2, MOST_EXPONENT + 1)))
    exponents[variable] = exponent
    return variable


class Reader:
    """Reads a string from its beginning on; what comes up to `at` is read.

    It goes on only with what begins some text, so that the place of an error
    is always the place that has been reached.
    """

    def __init__(self, text):
        self.text = text
        self.at = 0

    def is_done(self):
        """Whether the whole string is read."""
        return self.at == len(self.text)

    def takes(self, sign):
        """Whether a sign comes next; if so, it is read."""
        if not self.text.startswith(sign, self.at):
            return False
        self.at += len(sign)
        return True

    def need(self, sign):
        """Read a sign that has to come next."""
        if not self.takes(sign):
            raise NotText(self.at)

    def number(self, allowed):
        """Read one of the numbers that are allowed here."""
        words = [str(number) for number in allowed]
        digits = ""
        while not self.is_done() and begins_one(words, digits + self.text[self.at]):
            digits += self.text[self.at]
            self.at += 1
        if digits not in words:
            raise NotText(self.at)
        return int(digits)


def begins_one(words, start):
    """Whether one of the words begins so."""
    return any([word.startswith(start) for word in words])
