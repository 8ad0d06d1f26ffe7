"""Ideals as texts: [6]."""

import re
import unittest

from jointneeds.errors import NotText
from jointneeds.ideals import breach
from jointneeds.texts import read_ideal, written

from tests.boxes import all_ideals, error_raised, ideal, lies, stair, twice, variable

WRITTEN = [
    ((3, ()), "3:"),
    ((1, ()), "1:"),
    ((12, ()), "12:"),
    ((1, ((0,),)), "1: 1"),
    ((12, ((0,) * 12,)), "12: 1"),
    ((1, ((1,),)), "1: x0"),
    ((1, ((2,),)), "1: x0^2"),
    ((1, ((60,),)), "1: x0^60"),
    ((2, ((0, 3), (1, 1), (2, 0))), "2: x1^3, x0*x1, x0^2"),
    ((4, ((2, 0, 0, 1),)), "4: x0^2*x3"),
    ((3, ((0, 0, 10), (0, 11, 1), (19, 0, 0))), "3: x2^10, x1^11*x2, x0^19"),
    ((11, (variable(11, 10),)), "11: x10"),
    ((12, (variable(12, 11), variable(12, 10), variable(12, 9))), "12: x11, x10, x9"),
    ((12, ((60,) * 12,)), "12: " + "*".join(f"x{k}^60" for k in range(12))),
    ((12, ((1,) * 12,)), "12: x0*x1*x2*x3*x4*x5*x6*x7*x8*x9*x10*x11"),
]

SIXTY = "2: " + ", ".join(["x1^59"] + [f"x0^{k}*x1" for k in range(2, 60)] + ["x0*x1^2"])

# Texts of the form of [6] that are not the text of the ideal they list.
READ = [
    ("2: x0^2, x0*x1, x1^3", (2, ((0, 3), (1, 1), (2, 0)))),
    ("2: x1, x1^2, x0*x1, x0^7, x0^3", (2, ((0, 1), (3, 0)))),
    ("2: x1, x1, x1", (2, ((0, 1),))),
    ("2: x0, 1, x1", (2, ((0, 0),))),
    ("1: 1, 1", (1, ((0,),))),
    ("1: " + ", ".join(["x0^60"] * 60), (1, ((60,),))),
    ("12: x11, x10*x11, x1*x10, x10", (12, (variable(12, 11), variable(12, 10)))),
]

# What is no text, and the length of its longest beginning that begins a text.
WRONG = [
    ("", 0), (" ", 0), (":", 0), ("x0", 0), ("0", 0), ("0:", 0), ("00:", 0), ("-1:", 0), ("+1:", 0),
    (" 2:", 0), ("a", 0), ("\n2:", 0), ("1", 1), ("2", 1), ("12", 2), ("11", 2), ("01:", 0),
    ("13:", 1), ("10 :", 2), ("1O:", 1), ("20:", 1), ("22: x0", 1), ("100:", 2), ("120:", 2),
    ("2 :", 1), ("2;", 1), ("2x", 1), ("2: ", 3), ("3: ", 3), ("3:\n", 2), ("3::", 2), ("2:x0", 2),
    ("2:  x0", 3), ("2: ,", 3), ("2: y0", 3), ("2: X0", 3), ("2: x", 4), ("2: x ", 4), ("2: x2", 4),
    ("2: x9", 4), ("2: x-1", 4), ("2: x00", 5), ("2: x01", 5), ("2: x0 ", 5), ("2: x10", 5),
    ("12: x12", 6), ("12: x110", 7), ("12: x20", 6), ("11: x11", 6), ("10: x10", 6), ("11: x10:", 7),
    ("2: 0", 3), ("2: 2", 3), ("2: 10", 4), ("2: 11", 4), ("2: 1*x0", 4), ("2: 1^2", 4), ("2: x0*1", 6),
    ("2: 1 ", 4), ("2: 1,", 5), ("2: 1, ", 6), ("2: 1,1", 5), ("2: 1,  1", 6), ("2: 1 , 1", 4),
    ("2: x0^", 6), ("2: x0^0", 6), ("2: x0^00", 6), ("2: x0^02", 6), ("2: x0^1", 7), ("2: x0^1, x1", 7),
    ("2: x0^1*x1", 7), ("2: x0^61", 7), ("2: x0^69", 7), ("2: x0^60 ", 8), ("2: x0^600", 8), ("2: x0^70", 7),
    ("2: x0^99", 7), ("2: x0^100", 8), ("2: x0^-2", 6), ("2: x0^x1", 6), ("2: x0^2^2", 7), ("2: x0^+2", 6),
    ("2: x0*", 6), ("2: x0*x", 7), ("2: x0*x0", 7), ("2: x0*x1*", 8), ("2: x1*", 5), ("2: x1*x0", 5),
    ("1: x0*x1", 5), ("1: x0^2*", 7), ("3: x1*x0", 7), ("3: x1*x1", 7), ("3: x2*x1", 5), ("3: x0*x3", 7),
    ("12: x1*x1*x2", 9), ("12: x2*x1", 9), ("12: x2*x1, x0", 9), ("12: x2*x1*x11", 9), ("12: x10*x10", 10),
    ("12: x2*x12", 9), ("12: x11*x2", 7), ("12: x9*x1", 9), ("12: x10*x1", 10), ("11: x9*x11", 9),
    ("2: x0**x1", 6), ("2: x0*^2", 6), ("2: x0x1", 5), ("2: x0 *x1", 5), ("2: x0, ", 7), ("2: x0,", 6),
    ("2: x0,x1", 6), ("2: x0,  x1", 7), ("2: x0 , x1", 5), ("2: x0; x1", 5), ("2: x0, x1.", 9),
    ("2: x0, x1\n", 9), ("2: x0, x2", 8), ("2: x0, x1, ", 11), ("2: x0,, x1", 6), ("2: x0, , x1", 7),
    ("2: x0^3*x1^1", 12), ("2: x0^3*x1^1,", 12), ("2: x0^3*x1^1 ", 12), ("2: x0^3x1", 7), ("2: x\u0660", 4),
    ("\u0662:", 0), ("2:\u00a0x0", 2), ("2: x0^\u00b2", 6), ("1" * 5000, 2), ("2: x" + "1" * 5000, 5),
    ("2: x0^" + "2" * 5000, 8), (SIXTY + ",", len(SIXTY)), (SIXTY + ", ", len(SIXTY)),
    (SIXTY + ", x0", len(SIXTY)), (SIXTY + ", 1", len(SIXTY)), (SIXTY + "^", len(SIXTY)),
    ("1: " + ", ".join(["x0"] * 61), 3 + 60 * 4 - 2), ("1: " + ", ".join(["1"] * 61), 3 + 60 * 3 - 2),
]

SIGNS = "0123456789x^*,: ;"

# What may be missing behind the beginning of a text until there is a text.
ENDS = ["", "1:", ":", " 1", "1", "0", "2"] + [f"x{k}" for k in range(12)] + [str(k) for k in range(3, 12)]


def is_text(text):
    """Whether a string has the form of [6]."""
    if not re.fullmatch(r"([1-9]|1[0-2]):( [x0-9^*]+(, [x0-9^*]+)*)?", text, re.ASCII):
        return False
    n, _, rest = text.partition(":")
    words = rest[1:].split(", ") if rest else []
    return len(words) <= 60 and all(is_word(int(n), word) for word in words)


def is_word(n, word):
    """Whether a word is a generator in n variables."""
    if word == "1":
        return True
    last = -1
    for power in word.split("*"):
        found = re.fullmatch(r"x(0|[1-9][0-9]?)(\^([2-9]|[1-5][0-9]|60))?", power, re.ASCII)
        if not found or not last < int(found.group(1)) < n:
            return False
        last = int(found.group(1))
    return True


def begins_text(start):
    """Whether some text begins so."""
    return any(is_text(start + end) for end in ENDS)


class WrittenTests(unittest.TestCase):

    def test_by_hand(self):
        for value, text in WRITTEN:
            with self.subTest(text):
                self.assertEqual(twice(self, written, value), text)

    def test_sixty_generators(self):
        text = "2: x1^59, " + ", ".join(monomial_text(k, 59 - k) for k in range(1, 59)) + ", x0^59"
        self.assertEqual(written((2, stair(59))), text)

    def test_written_and_read(self):
        for n, top in ((1, 4), (2, 3), (3, 1)):
            for value in all_ideals(n, top):
                text = written(value)
                self.assertTrue(is_text(text))
                self.assertEqual(read_ideal(text), value)


def monomial_text(first, second):
    """The text of a monomial with two positive exponents."""
    powers = [f"x{k}" + (f"^{exponent}" if exponent > 1 else "") for k, exponent in enumerate((first, second))]
    return "*".join(powers)


class ReadTests(unittest.TestCase):

    def test_by_hand(self):
        for value, text in WRITTEN + [(value, text) for text, value in READ]:
            with self.subTest(text):
                self.assertEqual(twice(self, read_ideal, text), value)

    def test_sixty_generators(self):
        value = read_ideal(SIXTY)
        self.assertEqual(value, ideal(2, [(0, 59), (1, 2), (2, 1)]))
        self.assertEqual(read_ideal(written((2, stair(59)))), (2, stair(59)))

    def test_each_sequence_of_the_monomials(self):
        words = {"x0*x1": (1, 1), "x0^3": (3, 0), "x1^2": (0, 2), "x0^4*x1": (4, 1), "x0": (1, 0)}
        for a in words:
            for b in words:
                for c in words:
                    n, generators = read_ideal(f"2: {a}, {b}, {c}")
                    self.assertIsNone(breach((n, generators)))
                    for m in ((x, y) for x in range(6) for y in range(4)):
                        self.assertEqual(lies(generators, m), lies([words[a], words[b], words[c]], m))


class NotTextTests(unittest.TestCase):

    def test_by_hand(self):
        for text, place in WRONG:
            with self.subTest(text):
                error_raised(self, NotText, {"place": place}, read_ideal, text)

    def test_cut_off_anywhere(self):
        for text in [text for _, text in WRITTEN] + [text for text, _ in READ] + [SIXTY]:
            for place in range(len(text)):
                with self.subTest(text[:place]):
                    if not is_text(text[:place]):
                        error_raised(self, NotText, {"place": place}, read_ideal, text[:place])

    def test_a_strange_sign_anywhere(self):
        for text in [text for _, text in WRITTEN] + [text for text, _ in READ]:
            for place in range(len(text) + 1):
                for sign in ("?", "\n", "-", "X"):
                    strange = text[:place] + sign + text[place:]
                    error_raised(self, NotText, {"place": place}, read_ideal, strange)

    def test_a_sign_too_many_too_few_or_changed(self):
        for text in ("2: x1^3, x0*x1, x0^2", "12: x1^10*x10, x11^60", "3:", "1: 1, x0", "3: x0*x1^20*x2"):
            self.check_all([text[:k] + text[k + 1:] for k in range(len(text))])
            self.check_all([text[:k] + sign + text[k:] for k in range(len(text) + 1) for sign in SIGNS])
            self.check_all([text[:k] + sign + text[k + 1:] for k in range(len(text)) for sign in SIGNS])

    def check_all(self, texts):
        """Check that strings are read just if they are texts, and else the place."""
        for text in texts:
            with self.subTest(text):
                if is_text(text):
                    self.assertIsNone(breach(read_ideal(text)))
                    continue
                with self.assertRaises(NotText) as caught:
                    read_ideal(text)
                place = caught.exception.place
                self.assertTrue(begins_text(text[:place]))
                self.assertFalse(place < len(text) and begins_text(text[:place + 1]))


if __name__ == "__main__":
    unittest.main()
