"""[0.7]: rings and routes."""

import itertools

from flatwebs.base.rings import (
    count_rings, each_ring, is_plain, is_ring, is_route, plain_ring, ring_ties, route_ties)
from flatwebs.base.webs import Web, ring_web
from flatwebs.errors import InvalidRoute, InvalidWeb, TooMany
from tests.samples import (
    APART, BOW, HOUSES, KITE, OBJECTS, ONE, PRISM, TWELVE, TWO, WHEEL, WRONG, Case, every_full, not_webs,
    slow_rings, some_webs, webs_on)

LONG = tuple("abcdefghijklmnop")


def no_routes(least):
    """Values that are no tuples of so many different names."""
    short = [row for row in ((), ("a",), ("a", "b")) if len(row) < least]
    return [*short, ("a", "b", "a"), ("a", "b", "c", "c"), ["a", "b", "c"], "abc", ("a", "b", 3), ("a", "b", "C"),
            ("a", "b", None), ("a", "b", ("c",)), ("a", "b", ""), {"a": 1, "b": 2, "c": 3}, *WRONG, *OBJECTS]


class Examples(Case):

    def test_examples(self):
        self.assertEqual(
            [plain_ring(("c", "d", "a", "b")), is_plain(("a", "c", "b")), is_ring(WHEEL, ("b", "h", "a")),
             is_route(WHEEL, ("a", "h", "c", "b")), ring_ties(("b", "c", "a"))],
            [("a", "b", "c", "d"), False, True, True, (("a", "b"), ("a", "c"), ("b", "c"))])
        self.assertEqual(
            [list(each_ring(WHEEL))[:3], count_rings(PRISM), count_rings(WHEEL), route_ties(("c", "a", "b"))],
            [[("a", "b", "c", "d"), ("a", "b", "c", "d", "h"), ("a", "b", "c", "h")], 14, 13,
             (("a", "b"), ("a", "c"))])


class Judging(Case):

    def test_routes_and_rings(self):
        for web in [KITE, APART, TWO, ONE, WHEEL]:
            for many in range(0, 5):
                for row in itertools.product(web.places, repeat=many):
                    different = len(set(row)) == many
                    tied = all(b in web.neighbours(a) for a, b in zip(row, row[1:]))
                    self.is_bool(is_route(web, row), many >= 2 and different and tied)
                    closed = many >= 3 and row[0] in web.neighbours(row[-1])
                    self.is_bool(is_ring(web, row), different and tied and closed)

    def test_no_routes(self):
        for value in [*no_routes(2), ("a", "x"), ("a", "d"), ["a", "b"]]:
            self.is_bool(is_route(KITE, value), False)
        for value in [*no_routes(3), ("a", "b", "d"), ("a", "b", "x"), ("x", "y", "z")]:
            self.is_bool(is_ring(KITE, value), False)

    def test_no_webs(self):
        for value in not_webs():
            self.refuses(InvalidWeb, is_route, value, ("a", "b"))
            self.refuses(InvalidWeb, is_ring, value, None)
            self.refuses(InvalidWeb, count_rings, value)
            self.refuses(InvalidWeb, lambda: next(each_ring(value)))

    def test_plain(self):
        for many in (3, 4, 5):
            for ring in itertools.permutations(TWELVE[:many]):
                plain = plain_ring(ring)
                self.assertEqual(plain[0], "a")
                self.assertLess(plain[1], plain[-1])
                self.assertEqual(ring_ties(plain), ring_ties(ring))
                self.is_bool(is_plain(ring), ring == plain)
                pairs = {tuple(sorted((ring[k - 1], ring[k]))) for k in range(many)}
                self.assertEqual(ring_ties(ring), tuple(sorted(pairs)))
        self.assertEqual(plain_ring(LONG[::-1]), LONG)
        self.assertEqual(len(ring_ties(LONG)), 16)
        self.is_bool(is_plain(LONG), True)

    def test_plain_refuses(self):
        for value in no_routes(3):
            self.refuses(InvalidRoute, plain_ring, value)
            self.refuses(InvalidRoute, ring_ties, value)
            self.is_bool(is_plain(value), False)

    def test_route_ties(self):
        self.assertEqual(route_ties(("b", "a")), (("a", "b"),))
        self.assertEqual(route_ties(("b", "d", "a", "c")), (("a", "c"), ("a", "d"), ("b", "d")))
        self.assertEqual(len(route_ties(LONG)), 15)
        self.refuses_all(InvalidRoute, route_ties, no_routes(2))


class Counting(Case):

    def test_all_rings(self):
        for web in [ONE, TWO, APART, BOW, HOUSES, PRISM, *webs_on(4), *some_webs(6, 9, 25, 1), *some_webs(6, 13, 5, 2),
                    *some_webs(7, 12, 5, 3)]:
            rings = slow_rings(web)
            self.assertEqual(list(each_ring(web)), rings)
            self.assertEqual(count_rings(web), len(rings))

    def test_odd_names(self):
        web = Web.of_ties(("a", "b"), ("a", "bb"), ("aa", "b"), ("aa", "bb"), ("b", "bb"))
        self.assertEqual(list(each_ring(web)), slow_rings(web))

    def test_ring_of_twelve(self):
        self.assertEqual(list(each_ring(ring_web(TWELVE))), [TWELVE])

    def test_limit(self):
        self.assertEqual([count_rings(every_full(many)) for many in (3, 4, 5, 6, 7, 8)], [1, 7, 37, 197, 1172, 8018])
        self.refuses(TooMany, count_rings, every_full(9), limit=20000)

    def test_just_at_the_limit(self):
        at = ("ab ad ae ah ai ak al be bg bh bj cf cg ch ck df dg di dj dk dl ef eh el fi fk gh gj gk hk ij jl")
        above = ("ae af ah bc bd be bh bj bk ce cf ci cj df dg dh di ej el fg fi fk gh gi gl hj hl ij ik il jk kl")
        self.assertEqual(count_rings(Web.of_ties(*[tuple(tie) for tie in at.split()])), 20000)
        self.refuses(TooMany, count_rings, Web.of_ties(*[tuple(tie) for tie in above.split()]), limit=20000)

    def test_one_by_one(self):
        rings = each_ring(Web(TWELVE, tuple(itertools.combinations(TWELVE, 2))[:40]))
        self.assertEqual(next(rings), ("a", "b", "c"))
        rings = each_ring(every_full(9))
        self.assertEqual([next(rings) for _ in range(2)], [("a", "b", "c"), ("a", "b", "c", "d")])

    def test_dead_ends(self):
        # Many routes lead away from "a", and none of them back: this must not take long.
        ties = tuple(itertools.combinations(TWELVE[1:10], 2)) + (("a", "b"),)
        web = Web(TWELVE[:10], tuple(sorted(ties)))
        self.assertEqual(next(each_ring(web)), ("b", "c", "d"))
