"""[0.1], [0.7] and [1.3]: integers, names and fractions."""

import math

from flatwebs.base import words
from flatwebs.base.words import are_names, fraction, is_count, is_fraction, is_integer, is_name, is_naming
from flatwebs.errors import InvalidNumber, InvalidPlace
from tests.samples import OBJECTS, WRONG, Case

LONGEST = 10 ** 60 - 1


class Words(Case):

    def test_examples(self):
        self.assertEqual(
            [is_integer(-7), is_count(True), is_name("ab1"), are_names(()), are_names(("b", "a", "b")),
             is_naming(("a", "b"), {"a": "b", "b": "a"})], [True, False, False, True, True, True])
        self.assertEqual([fraction(6, -4), fraction(0, 9), is_fraction((2, 4)), is_fraction((-3, 2))],
                         [(-3, 2), (0, 1), False, True])

    def test_constants(self):
        self.assertEqual((words.MAX_LETTERS, words.MAX_FIGURES), (8, 60))

    def test_integers(self):
        for value in (0, 1, -1, 77, LONGEST, -LONGEST):
            self.is_bool(is_integer(value), True)
            self.is_bool(is_count(value), value >= 0)
        for value in (LONGEST + 1, -LONGEST - 1, 10 ** 99, True, False, None, "1", "", (1,), [1], {1: 1}, *OBJECTS):
            self.is_bool(is_integer(value), False)
            self.is_bool(is_count(value), False)

    def test_names(self):
        for value in ("a", "z", "ab", "abcdefgh", "zzzzzzzz", "aa"):
            self.is_bool(is_name(value), True)
        for value in ("", "abcdefghi", "A", "aB", "a1", "1", "a b", " a", "a ", "a\n", "\n", "a_b", "-", "`", "{",
                      "x" * 4000, "a\u00e9", "\u00aa", "\u03b1"):
            self.is_bool(is_name(value), False)
        for value in WRONG + OBJECTS:
            self.is_bool(is_name(value), False)

    def test_tuples_of_names(self):
        for value in ((), ("a",), ("a", "a"), ("b", "a"), ("abcdefgh",) * 30):
            self.is_bool(are_names(value), True)
        for value in (None, True, 0, "a", "abc", [], ["a"], {}, {"a": "b"}, (1,), ("a", None), ("a", "B"), ("",),
                      (("a",),), ("a", ["b"]), (True,), *OBJECTS):
            self.is_bool(are_names(value), False)

    def test_namings(self):
        self.is_bool(is_naming(("a", "b"), {"b": "x", "a": "y"}), True)
        self.is_bool(is_naming((), {}), True)
        self.is_bool(is_naming(("b", "a", "b"), {"a": "x", "b": "y"}), True)
        for value in ({}, {"a": "x"}, {"a": "x", "b": "x"}, {"a": "x", "b": "y", "c": "z"}, {"a": "x", "c": "y"},
                      {"a": "x", "b": None}, {"a": "x", "b": ["y"]}, {"a": "x", "b": "Y"}, {"a": 1, "b": 2},
                      {"a": "x", "b": ("y",)}, {"a": "x", "b": ""}, {"a": "x", "b": "abcdefghi"}, {"a": "x", 1: "y"},
                      {"a": "x", "b": "y", None: "z"}, {"a": "x", "b": "y", True: "z"}, (("a", "x"), ("b", "y")),
                      ["a", "b"], ("x", "y"), "ab"):
            self.is_bool(is_naming(("a", "b"), value), False)
        for value in WRONG + OBJECTS:
            self.is_bool(is_naming(("a", "b"), value), False)

    def test_namings_of_no_names(self):
        for value in ("a", "ab", None, True, 3, ["a"], ("a", 1), ("a", "B"), (("a",),), {"a": "b"}, *OBJECTS):
            self.refuses(InvalidPlace, is_naming, value, {"a": "b"})
            self.refuses(InvalidPlace, is_naming, value, None)

    def test_fractions(self):
        for value in ((0, 1), (1, 1), (-1, 1), (2, 3), (-2, 3), (10 ** 99, 1), (10 ** 99 + 1, 10 ** 99),
                      (1, 10 ** 99)):
            self.is_bool(is_fraction(value), True)
        for value in ((0, 2), (2, 2), (1, 0), (1, -1), (0, 0), (0, -1), (4, 6), (True, 1), (1, True), (False, 1),
                      (1,), (1, 2, 3), [1, 2], (1, None), ("1", 2), (1, "2"), ((1, 2), 3), {1: 2}, "12", 1):
            self.is_bool(is_fraction(value), False)
        for value in WRONG + OBJECTS:
            self.is_bool(is_fraction(value), value == (1, 2))

    def test_fraction(self):
        for top in range(-12, 13):
            for bottom in [*range(-12, 0), *range(1, 13)]:
                found = fraction(top, bottom)
                self.is_bool(is_fraction(found), True)
                self.assertEqual(found[0] * bottom, found[1] * top)
                self.assertEqual(math.gcd(*found), 1)
        self.assertEqual(fraction(LONGEST, -LONGEST), (-1, 1))
        self.assertEqual(fraction(LONGEST, 2), (LONGEST, 2))

    def test_fraction_refuses(self):
        for wrong in (None, True, False, "1", (1,), [1], {}, LONGEST + 1, -LONGEST - 1, *OBJECTS[:2]):
            self.refuses(InvalidNumber, fraction, wrong, 1, value=wrong)
            self.refuses(InvalidNumber, fraction, 1, wrong, value=wrong)
            self.refuses(InvalidNumber, fraction, wrong, 0, value=wrong)
        self.refuses(InvalidNumber, fraction, 3, 0, value=0)
        self.refuses(InvalidNumber, fraction, "top", "bottom", value="top")
