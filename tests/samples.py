"""Webs, wrong values and slow ways to the same results, for all tests."""

import itertools
import random
import unittest

from flatwebs.base.drawings import Drawing
from flatwebs.base.webs import Web, full_web
from flatwebs.errors import InvalidNumber, ParseError, UnknownName, WebError

FOUR = Web.from_lines("tie a b", "tie a c", "tie a d", "tie b c", "tie b d", "tie c d")
KITE = Web.from_lines("tie a b", "tie a c", "tie b c", "tie b d", "tie c d")
WHEEL = Web.from_lines("tie a b", "tie b c", "tie c d", "tie a d", "tie a h", "tie b h", "tie c h", "tie d h")
PRISM = Web.from_lines("tie a b", "tie a c", "tie b c", "tie a d", "tie b e", "tie c f", "tie d e", "tie d f",
                       "tie e f")
GLUED = Web.from_lines("tie a b", "tie a c", "tie a d", "tie b c", "tie b d", "tie c d", "tie a e", "tie a f",
                       "tie b e", "tie b f", "tie e f")
HOUSES = Web.from_lines("tie a d", "tie a e", "tie a f", "tie b d", "tie b e", "tie b f", "tie c d", "tie c e",
                        "tie c f")
BOW = Web.of_ties(("a", "b"), ("a", "c"), ("b", "c"), ("c", "d"), ("c", "e"), ("d", "e"), ("e", "f"))
ONE = Web(("a",), ())
TWO = Web(("a", "b"), (("a", "b"),))
APART = Web(("a", "b", "c", "d"), (("a", "b"), ("c", "d")))
TWELVE = tuple("abcdefghijkl")
FLAT_TABLE = {"a": ("b", "d", "c"), "b": ("a", "c", "d"), "c": ("a", "d", "b"), "d": ("a", "b", "c")}
flat = Drawing(FOUR, FLAT_TABLE)

# Nothing in here is a name, a web, a table, a drawing, a ring, a route, or a dict of lists.
WRONG = [
    None, True, False, 0, 1, -7, 3, 10 ** 60, -10 ** 99, "", "A", "ab1", "a b", " a", "a\n", "abcdefghi", "x" * 4000,
    [], ["a"], ["a", "b", "c"], [("a", "b")], (), (None,), (True,), (1, 2), ("",), ("A", "b", "c"), ("a", "b", 3),
    ("a", "b", "c", "a"), (("a", "b", "c"),), ((((((("a",),),),),),),), ("a", ("b", "c")), {}, {"a": 1}, {1: "a"},
    {None: None}, {True: ()}, {"a": ["b"]}, {("a", "b"): ("c",)}, ParseError(3), UnknownName("a"), WebError("a"),
    ("four", ("a", "b", "c", "d"), ()), ("two", None, None), ("two", (("a", "b"), 3), ()),
]
# Of these, some are right in one place, and wrong in all others.
OBJECTS = [FOUR, ONE, flat, flat.mirror, InvalidNumber(1)]


class Case(unittest.TestCase):
    """A test case that can ask for the very class of an error, and for what it keeps."""

    def refuses(self, error, call, *args, **kept):
        try:
            got = call(*args)
        except Exception as caught:
            self.assertIs(type(caught), error, (call, args, caught))
            for name, value in kept.items():
                self.assertIs(type(getattr(caught, name)), type(value), (call, args))
                self.assertEqual(getattr(caught, name), value, (call, args))
        else:
            self.fail(f"{call} took {args!r} and returned {got!r}")

    def refuses_all(self, error, call, values):
        for value in values:
            self.refuses(error, call, value)

    def is_bool(self, value, wanted):
        self.assertIs(value, wanted)


def not_webs():
    """Values in the place of a web."""
    return [value for value in WRONG + OBJECTS if not isinstance(value, Web)]


def not_drawings():
    """Values in the place of a drawing."""
    return [value for value in WRONG + OBJECTS if not isinstance(value, Drawing)]


def webs_on(many):
    """All webs on the first so many letters."""
    places = TWELVE[:many]
    pairs = list(itertools.combinations(places, 2))
    for bits in range(1 << len(pairs)):
        yield Web(places, tuple(pair for k, pair in enumerate(pairs) if bits >> k & 1))


def some_webs(many, ties, count, seed):
    """Some webs with so many places and ties."""
    chance = random.Random(seed)
    places = TWELVE[:many]
    pairs = list(itertools.combinations(places, 2))
    return [Web(places, tuple(sorted(chance.sample(pairs, ties)))) for _ in range(count)]


def slow_lots(places, ties):
    """The lots of some places, by joining them tie by tie."""
    lots = [{place} for place in places]
    for a, b in ties:
        if a in places and b in places:
            one = next(lot for lot in lots if a in lot)
            other = next(lot for lot in lots if b in lot)
            if one is not other:
                lots.remove(other)
                one |= other
    return tuple(sorted(tuple(sorted(lot)) for lot in lots))


def slow_is_block(web):
    """Whether a web is a block, by leaving out each place."""
    rests = [[other for other in web.places if other != place] for place in web.places]
    lots = [slow_lots(rest, web.ties) for rest in rests]
    return len(web) >= 3 and len(slow_lots(web.places, web.ties)) == 1 and all(len(found) == 1 for found in lots)


def slow_rings(web):
    """All plain rings, by trying all orders of all places."""
    rings = []
    for many in range(3, len(web) + 1):
        for row in itertools.permutations(web.places, many):
            if row[0] == min(row) and row[1] < row[-1]:
                pairs = [tuple(sorted(pair)) for pair in zip(row, row[1:] + row[:1])]
                if all(pair in web.ties for pair in pairs):
                    rings.append(row)
    return sorted(rings)


def all_tables(web):
    """All tables of a web."""
    choices = []
    for place in web.places:
        near = web.neighbours(place)
        choices.append([near[:1] + rest for rest in itertools.permutations(near[1:])])
    for rounds in itertools.product(*choices):
        yield dict(zip(web.places, rounds))


def any_drawing(web):
    """The first table of a web that is a drawing, by trying them all; None if none is."""
    for table in all_tables(web):
        try:
            return Drawing(web, table)
        except WebError:
            pass
    return None


def subsets(row):
    """All parts of a tuple, small ones first."""
    for many in range(len(row) + 1):
        yield from itertools.combinations(row, many)


def every_full(many):
    """The full web with the first so many letters."""
    return full_web(TWELVE[:many])
