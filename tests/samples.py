"""Webs, wrong values and slow ways to the same results, for all tests."""

import itertools
import random
import unittest

from flatwebs.base.drawings import Drawing, is_drawing
from flatwebs.base.webs import Web, full_web, ring_web
from flatwebs.errors import InvalidNumber, ParseError, UnknownName, WebError
from flatwebs.tree.parts import PartTree

FOUR = Web.from_lines("tie a b", "tie a c", "tie a d", "tie b c", "tie b d", "tie c d")
KITE = Web.from_lines("tie a b", "tie a c", "tie b c", "tie b d", "tie c d")
WHEEL = Web.from_lines("tie a b", "tie b c", "tie c d", "tie a d", "tie a h", "tie b h", "tie c h", "tie d h")
PRISM = Web.from_lines("tie a b", "tie a c", "tie b c", "tie a d", "tie b e", "tie c f", "tie d e", "tie d f",
                       "tie e f")
GLUED = Web.from_lines("tie a b", "tie a c", "tie a d", "tie b c", "tie b d", "tie c d", "tie a e", "tie a f",
                       "tie b e", "tie b f", "tie e f")
HOUSES = Web.from_lines("tie a d", "tie a e", "tie a f", "tie b d", "tie b e", "tie b f", "tie c d", "tie c e",
                        "tie c f")
BOW = Web.of_ties(("a", "b"), ("a", "c"), ("b", "c"), ("c", "d"), ("c", "e"), ("d", "e"), ("e", "f"))
THREE = Web.of_ties(("a", "x"), ("a", "y"), ("a", "z"), ("b", "x"), ("b", "y"), ("b", "z"))
OCTA = Web.of_ties(*[(a, b) for a, b in itertools.combinations("abcdef", 2) if (a, b) not in (("a", "b"), ("c", "d"),
                                                                                            ("e", "f"))])
CUBE = Web.of_ties(*[(a, b) for a, b in itertools.combinations("abcdefgh", 2)
                     if bin("abcdefgh".index(a) ^ "abcdefgh".index(b)).count("1") == 1])
PETERSEN = Web.of_ties(*[tuple(sorted(pair)) for k in range(5) for pair in (
    ("abcde"[k], "abcde"[(k + 1) % 5]), ("abcde"[k], "fghij"[k]), ("fghij"[k], "fghij"[(k + 2) % 5]))])
ONE = Web(("a",), ())
TWO = Web(("a", "b"), (("a", "b"),))
APART = Web(("a", "b", "c", "d"), (("a", "b"), ("c", "d")))
TWELVE = tuple("abcdefghijkl")
FLAT_TABLE = {"a": ("b", "d", "c"), "b": ("a", "c", "d"), "c": ("a", "d", "b"), "d": ("a", "b", "c")}
flat = Drawing(FOUR, FLAT_TABLE)

SIX = Drawing.from_rims(("a", "b", "c"), ("a", "c", "e"), ("a", "d", "b"), ("a", "e", "d"), ("b", "d", "f"),
                        ("b", "f", "c"), ("c", "f", "e"), ("d", "e", "f"))
# Twelve places with five ties each.
TWENTY = Drawing.from_rims(*[rim for k in range(5) for rim in (
    ("a", "bcdef"[k], "bcdef"[k - 1]), ("bcdef"[k - 1], "bcdef"[k], "ghijk"[k]),
    ("ghijk"[k - 1], "bcdef"[k - 1], "ghijk"[k]), ("l", "ghijk"[k - 1], "ghijk"[k]))])

# Nothing in here is a name, a web, a table, a drawing, a ring, a route, or a dict of lists.
WRONG = [
    None, True, False, 0, 1, -7, 3, 10 ** 60, -10 ** 99, "", "A", "ab1", "a b", " a", "a\n", "abcdefghi", "x" * 4000,
    [], ["a"], ["a", "b", "c"], [("a", "b")], (), (None,), (True,), (1, 2), ("",), ("A", "b", "c"), ("a", "b", 3),
    ("a", "b", "c", "a"), (("a", "b", "c"),), ((((((("a",),),),),),),), ("a", ("b", "c")), {}, {"a": 1}, {1: "a"},
    {None: None}, {True: ()}, {"a": ["b"]}, {("a", "b"): ("c",)}, ParseError(3), UnknownName("a"), WebError("a"),
    ("four", ("a", "b", "c", "d"), ()), ("two", None, None), ("two", (("a", "b"), 3), ()),
]
# Of these, some are right in one place, and wrong in all others.
OBJECTS = [FOUR, ONE, flat, flat.mirror, PartTree.of_web(GLUED), InvalidNumber(1)]


class Case(unittest.TestCase):
    """A test case that can ask for the very class of an error, and for what it keeps."""

    def refuses(self, error, call, *args, **kept):
        try:
            got = call(*args)
        except Exception as caught:
            self.assertIs(type(caught), error, (call, args, caught))
            for name, value in kept.items():
                self.assertIs(type(getattr(caught, name)), type(value), (call, args))
                self.assertEqual(getattr(caught, name), value, (call, args))
        else:
            self.fail(f"{call} took {args!r} and returned {got!r}")

    def refuses_all(self, error, call, values):
        for value in values:
            self.refuses(error, call, value)

    def is_bool(self, value, wanted):
        self.assertIs(value, wanted)


def not_webs():
    """Values in the place of a web."""
    return [value for value in WRONG + OBJECTS if not isinstance(value, Web)]


def not_drawings():
    """Values in the place of a drawing."""
    return [value for value in WRONG + OBJECTS if not isinstance(value, Drawing)]


def webs_on(many):
    """All webs on the first so many letters."""
    places = TWELVE[:many]
    pairs = list(itertools.combinations(places, 2))
    for bits in range(1 << len(pairs)):
        yield Web(places, tuple(pair for k, pair in enumerate(pairs) if bits >> k & 1))


def some_webs(many, ties, count, seed):
    """Some webs with so many places and ties."""
    chance = random.Random(seed)
    places = TWELVE[:many]
    pairs = list(itertools.combinations(places, 2))
    return [Web(places, tuple(sorted(chance.sample(pairs, ties)))) for _ in range(count)]


def slow_lots(places, ties):
    """The lots of some places, by joining them tie by tie."""
    lots = [{place} for place in places]
    for a, b in ties:
        if a in places and b in places:
            one = next(lot for lot in lots if a in lot)
            other = next(lot for lot in lots if b in lot)
            if one is not other:
                lots.remove(other)
                one |= other
    return tuple(sorted(tuple(sorted(lot)) for lot in lots))


def slow_is_block(web):
    """Whether a web is a block, by leaving out each place."""
    rests = [[other for other in web.places if other != place] for place in web.places]
    lots = [slow_lots(rest, web.ties) for rest in rests]
    return len(web) >= 3 and len(slow_lots(web.places, web.ties)) == 1 and all(len(found) == 1 for found in lots)


def slow_rings(web):
    """All plain rings, by trying all orders of all places."""
    rings = []
    for many in range(3, len(web) + 1):
        for row in itertools.permutations(web.places, many):
            if row[0] == min(row) and row[1] < row[-1]:
                pairs = [tuple(sorted(pair)) for pair in zip(row, row[1:] + row[:1])]
                if all(pair in web.ties for pair in pairs):
                    rings.append(row)
    return sorted(rings)


def all_tables(web):
    """All tables of a web."""
    choices = []
    for place in web.places:
        near = web.neighbours(place)
        choices.append([near[:1] + rest for rest in itertools.permutations(near[1:])])
    for rounds in itertools.product(*choices):
        yield dict(zip(web.places, rounds))


def any_drawing(web):
    """The first table of a web that is a drawing, by trying them all; None if none is."""
    for table in all_tables(web):
        try:
            return Drawing(web, table)
        except WebError:
            pass
    return None


def all_drawings(web):
    """All drawings of a web, by trying all its tables."""
    return [Drawing(web, table) for table in all_tables(web) if is_drawing(web, table)]


def woven_webs(many, count, seed):
    """Some blocks with many parts: webs are put in the place of ties, or beside them, again and again."""
    chance = random.Random(seed)
    webs = []
    while len(webs) < count:
        web = ring_web(TWELVE[:3])
        while len(web) < many:
            names = TWELVE[len(web):len(web) + chance.randint(1, min(3, many - len(web)))]
            a, b = chance.choice(web.ties)
            row = (a,) + names + (b,)
            web = web + (full_web(tuple(sorted(row))) if chance.random() < .4 else Web.of_ties(*[
                tuple(sorted(pair)) for pair in zip(row, row[1:])]))
            if chance.random() < .4 and web.without_tie(a, b).is_block:
                web = web.without_tie(a, b)
        webs.append(web.renamed(dict(zip(web.places, chance.sample(web.places, many)))))
    return webs


def blocks_on(*numbers):
    """All blocks on so many letters."""
    return [web for many in numbers for web in webs_on(many) if slow_is_block(web)]


def held_webs():
    """Some held webs with a drawing."""
    return [FOUR, WHEEL, PRISM, OCTA, CUBE]


def triangulated(many, seed):
    """A triangulated drawing with so many places: places are put into rims, and ties exchanged, by chance."""
    chance = random.Random(seed)
    drawing = Drawing.from_rims(("a", "b", "c"), ("a", "c", "b"))
    for name in TWELVE[3:many]:
        rim = chance.choice(drawing.rims)
        rims = [one for one in drawing.rims if one != rim]
        drawing = Drawing.from_rims(*rims, *[(rim[k - 1], rim[k], name) for k in range(3)])
        for _ in range(chance.choice((0, 3, 9))):
            a, b = chance.choice(drawing.web.ties)
            c, d = drawing.behind(a, b), drawing.behind(b, a)
            if c != d and not drawing.web.is_tied(c, d):
                less = drawing.without_tie(a, b)
                drawing = less.tied_within(c, d, [one for one in less.rims if len(one) == 4][0])
    return drawing


def bent(value):
    """Values near a value: in it, something is exchanged, left out, told twice or told otherwise."""
    if isinstance(value, dict):
        for key in value:
            yield {k: value[k] for k in value if k != key}
            for other in bent(value[key]):
                yield {k: other if k == key else value[k] for k in value}
        yield {**value, "zz": 1}
        yield list(value.items())
    elif isinstance(value, tuple):
        yield list(value)
        yield value[::-1]
        yield (value,)
        for k, one in enumerate(value):
            yield value[:k] + value[k + 1:]
            yield value[:k] + (one,) + value[k:]
            yield value[:k - 1] + (one, value[k - 1]) + value[k + 1:] if k else value + (None,)
            for other in bent(one):
                yield value[:k] + (other,) + value[k + 1:]
    elif isinstance(value, int):
        yield from (value + 1, value - 1, None, str(value), value == 1)
    elif isinstance(value, str):
        yield from (value + "z", "", None, value.upper(), "zz", chr(ord(value[0]) + 1), "a", "b")


def subsets(row):
    """All parts of a tuple, small ones first."""
    for many in range(len(row) + 1):
        yield from itertools.combinations(row, many)


def every_full(many):
    """The full web with the first so many letters."""
    return full_web(TWELVE[:many])
