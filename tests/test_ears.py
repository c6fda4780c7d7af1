"""[11.4], [0.18]: ears."""

import collections
import itertools

from flatwebs.base.rings import plain_ring
from flatwebs.base.webs import MAX_TIES, Web, full_web, ring_web
from flatwebs.errors import InvalidEars, InvalidOrder, InvalidTie, InvalidWeb, UnknownName
from flatwebs.rank.ears import ears_by_order, ears_of, ears_with, is_ears, order_by_ears, web_of_ears
from flatwebs.rank.orders import each_order, is_order
from tests.samples import (
    APART, BOW, CUBE, FOUR, GLUED, HOUSES, KITE, OBJECTS, OCTA, ONE, PETERSEN, PRISM, THREE, TWELVE, TWO, WHEEL,
    WRONG, Case, bent, blocks_on, flat, not_webs, slow_is_block, some_webs, webs_on, woven_webs)

FORTY = Web(TWELVE, tuple(itertools.combinations(TWELVE, 2))[:39] + (("k", "l"),))
TAIL = Web.of_ties(("a", "b"), ("b", "c"), ("a", "c"), ("c", "d"))
TRIANGLE = ring_web(("a", "b", "c"))
BLOCKS = [*blocks_on(3, 4), *blocks_on(5)[::3], WHEEL, PRISM, GLUED, HOUSES, OCTA, CUBE, PETERSEN, THREE, FORTY,
          ring_web(TWELVE), ring_web(("d", "a", "c", "b")), *woven_webs(8, 6, 71), *woven_webs(12, 6, 72)]
NO_BLOCKS = [ONE, TWO, BOW, APART, TAIL, Web(TWELVE, ()), Web(("a", "b", "c", "d"), TRIANGLE.ties),
             *[web for web in some_webs(7, 8, 20, 73) if not slow_is_block(web)]]
WHEEL_EARS = (("a", "b", "c", "d"), ("a", "h", "b"), ("c", "h"), ("d", "h"))


def pairs_along(row):
    return [tuple(sorted(pair)) for pair in zip(row, row[1:])]


def slow_is_ears(web, value):
    """[11.4], as it is told."""
    if type(value) is not tuple or not value or not all(
            type(entry) is tuple and all(type(place) is str and place in web.places for place in entry)
            and len(set(entry)) == len(entry) for entry in value):
        return False
    ring = value[0]
    if len(ring) < 3 or ring[0] != min(ring) or ring[1] > ring[-1]:
        return False
    ties = collections.Counter(pairs_along(ring + ring[:1]))
    for k, entry in enumerate(value[1:], 1):
        ahead = set().union(*value[:k])
        if len(entry) < 2 or entry[0] > entry[-1] or not {entry[0], entry[-1]} <= ahead or ahead & set(entry[1:-1]):
            return False
        ties.update(pairs_along(entry))
    return ties == collections.Counter(web.ties) and set().union(*value) == set(web.places)


def ties_on_first(ears):
    return pairs_along(ears[0] + ears[0][:1])


class Examples(Case):

    def test_examples(self):
        self.assertEqual(
            [is_ears(WHEEL, WHEEL_EARS), len(ears_of(PRISM)), ears_of(TAIL),
             web_of_ears((("a", "b", "c"), ("a", "d", "c"))).ties],
            [True, 4, None, (("a", "b"), ("a", "c"), ("a", "d"), ("b", "c"), ("c", "d"))])
        self.assertEqual(
            [is_order(WHEEL, "a", "b", order_by_ears(WHEEL_EARS, "a", "b")),
             is_ears(WHEEL, ears_by_order(WHEEL, ("a", "d", "h", "c", "b")))],
            [True, True])


class Ears(Case):

    def check(self, web, ears):
        self.assertTrue(slow_is_ears(web, ears), (web.lines, ears))
        self.is_bool(is_ears(web, ears), True)
        self.assertEqual(len(ears), len(web.ties) - len(web.places) + 1)
        self.assertEqual(web_of_ears(ears), web)

    def test_ears_of_blocks(self):
        for web in BLOCKS:
            self.check(web, ears_of(web))
            self.assertEqual(ears_of(web), ears_of(web))
            for a, b in web.ties:
                ears = ears_with(web, a, b)
                self.check(web, ears)
                self.assertIn((a, b), ties_on_first(ears))
                ears = ears_with(web, b, a)
                self.check(web, ears)
                self.assertIn((a, b), ties_on_first(ears))

    def test_no_ears(self):
        for web in [*NO_BLOCKS, *[web for web in webs_on(4) if not slow_is_block(web)]]:
            self.assertIsNone(ears_of(web))
            for a, b in web.ties:
                self.assertIsNone(ears_with(web, a, b))
                self.assertIsNone(ears_with(web, b, a))

    def test_orders_by_ears(self):
        for web in BLOCKS:
            for ears in {ears_of(web), *[ears_with(web, a, b) for a, b in web.ties[::4]]}:
                for a, b in ties_on_first(ears):
                    self.is_bool(is_order(web, a, b, order_by_ears(ears, a, b)), True)
                    self.is_bool(is_order(web, b, a, order_by_ears(ears, b, a)), True)

    def test_ears_by_orders(self):
        for web in BLOCKS:
            for a, b in web.ties:
                for first, last in ((a, b), (b, a)):
                    for order in itertools.islice(each_order(web, first, last), 3):
                        ears = ears_by_order(web, order)
                        self.check(web, ears)
                        self.assertIn((a, b), ties_on_first(ears))
                        self.is_bool(is_order(web, first, last, order_by_ears(ears, first, last)), True)

    def test_all_orders_and_ears_of_small_blocks(self):
        for web in (TRIANGLE, KITE, FOUR, WHEEL, ring_web(("b", "a", "d", "c"))):
            for a, b in web.ties:
                for order in [*each_order(web, a, b), *each_order(web, b, a)]:
                    self.check(web, ears_by_order(web, order))
            for ears in all_ears(web):
                self.check(web, ears)
                for a, b in ties_on_first(ears):
                    self.is_bool(is_order(web, a, b, order_by_ears(ears, a, b)), True)

    def test_near_ears(self):
        for web in (TRIANGLE, KITE, WHEEL, GLUED, THREE):
            for value in bent(ears_of(web)):
                self.is_bool(is_ears(web, value), slow_is_ears(web, value))
        for web, value in [
                (KITE, (("a", "b", "c"), ("b", "c", "d"))), (KITE, (("a", "b", "c"), ("c", "d", "b"))),
                (KITE, (("b", "c", "a"), ("b", "d", "c"))), (KITE, (("a", "c", "b"), ("b", "d", "c"))),
                (KITE, (("a", "b", "d", "c"), ("c", "b"))), (KITE, (("a", "b", "d", "c"), ("a", "b"))),
                (KITE, (("a", "b", "d", "c"),)), (FOUR, (("a", "b", "c"), ("b", "d", "c"), ("a", "d"))),
                (FOUR, (("a", "b", "c"), ("a", "d"), ("b", "d", "c"))), (TAIL, (("a", "b", "c"), ("c", "d"))),
                (APART, (("a", "b"), ("c", "d"))), (Web(("a", "b", "c", "d"), TRIANGLE.ties), (("a", "b", "c"),)),
                (TRIANGLE, (("a", "b", "c"),)), (TRIANGLE, (("a", "b", "c"), ())), (TRIANGLE, (("a", "b"),)),
                (KITE, (("a", "b", "d", "c"), ("b", "c"))), (TRIANGLE, (("a", "b", "c"), ("a", "b", "c"))),
                (KITE, (("a", "b", "d", "c"), ("b", "c"), ("b", "c"))),
                (KITE, (("a", "b", "c"), ("b", "c"), ("b", "d", "c"))),
                (full_web(("a", "b", "c", "d")).without_tie("a", "b"), (("a", "c", "b", "d"), ("c", "d")))]:
            self.is_bool(is_ears(web, value), slow_is_ears(web, value))

    def test_webs_of_ears(self):
        rows = [(("a", "b", "c", "d"), ("b", "d")), (("a", "b", "c"), ("a", "x", "y", "c"), ("a", "c", "x")),
                (("a", "b", "c"), ("a", "b")), (("a", "b"), ("a", "b")), (("a", "b"),), (("a", "b", "c"), ("d", "e")),
                (("a", "b", "c"), ("c", "d", "b")), (("a", "b", "c"), ("a", "d")), (("a", "b", "c"), ("a", "d", "a")),
                (("a", "b", "c"), ("b", "d", "c"), ("a", "d")), (("a", "c", "b"),), (("b", "c", "a"),),
                (TWELVE,), (TWELVE, ("a", "m", "c")), (TWELVE, ("a", "c"), ("a", "d")),
                (("a", "b", "c"), ("b", "a", "d", "c")), (("a", "b", "c"), ("a", "d", "c"), ("b", "d"), ("b", "d"))]
        for ears in rows:
            ties = set(pairs_along(ears[0] + ears[0][:1]) + [pair for entry in ears[1:] for pair in pairs_along(entry)])
            places = sorted({place for entry in ears for place in entry})
            right = len(places) <= 12 and all(a < b for a, b in ties) and slow_is_ears(
                Web(tuple(places), tuple(sorted(ties))), ears)
            if right:
                self.assertEqual(web_of_ears(ears).ties, tuple(sorted(ties)))
            else:
                self.refuses(InvalidEars, web_of_ears, ears)
                self.refuses(InvalidEars, order_by_ears, ears, "a", "b")

    def test_many_ties(self):
        full = [pair for pair in itertools.combinations(TWELVE, 2) if pair not in ties_on_first((TWELVE,))]
        self.assertEqual(len(web_of_ears((TWELVE, *full[:28])).ties), MAX_TIES)
        self.refuses(InvalidEars, web_of_ears, (TWELVE, *full[:29]))
        self.assertEqual(len(ears_of(FORTY)), 29)
        # Thirteen places, on a ring or behind it.
        self.refuses(InvalidEars, web_of_ears, (TWELVE + ("m",),))
        self.refuses(InvalidEars, web_of_ears, (TWELVE, ("a", "m", "b")))


def all_ears(web, begun=()):
    """All ears of a small web that go on from these entries, each route at least the one ahead of it."""
    if not begun:
        for many in range(3, len(web) + 1):
            for ring in itertools.permutations(web.places, many):
                if ring == plain_ring(ring) and set(ties_on_first((ring,))) <= set(web.ties):
                    yield from all_ears(web, (ring,))
        return
    if slow_is_ears(web, begun):
        yield begun
        return
    done = ties_on_first(begun) + [pair for entry in begun[1:] for pair in pairs_along(entry)]
    ahead = set().union(*begun)
    for many in range(2, len(web) + 1):
        for way in itertools.permutations(web.places, many):
            free = not ahead & set(way[1:-1]) and {way[0], way[-1]} <= ahead and way[0] < way[-1]
            if free and set(pairs_along(way)) <= set(web.ties) - set(done) and (not begun[1:] or begun[-1] <= way):
                yield from all_ears(web, begun + (way,))


class Wrong(Case):

    def test_wrong_values(self):
        for value in [*WRONG, *OBJECTS, [("a", "b", "c")], (["a", "b", "c"],), {"a": 1}, (("a", "b", "c"), 1),
                      (("a", "b", "c"), ("a", None)), ((1, 2, 3),), (("a", "b", "c"), ["a", "b"]), "abc", ("abc",)]:
            self.is_bool(is_ears(TRIANGLE, value), value == (("a", "b", "c"),))
            if value != (("a", "b", "c"),):
                self.refuses(InvalidEars, web_of_ears, value)
                self.refuses(InvalidEars, order_by_ears, value, None, None)

    def test_wrong_webs(self):
        for value in not_webs():
            for call in (ears_of, lambda web: is_ears(web, None), lambda web: ears_with(web, None, None),
                         lambda web: ears_by_order(web, None)):
                self.refuses(InvalidWeb, call, value)

    def test_wrong_places(self):
        for value in ["x", "ab", *WRONG, *OBJECTS]:
            for web in (KITE, TAIL, ONE):
                self.refuses(UnknownName, ears_with, web, value, "zz", word=value)
                self.refuses(UnknownName, ears_with, web, "a", value, word=value)
        for web, a, b in ((KITE, "a", "d"), (KITE, "d", "a"), (KITE, "a", "a"), (TAIL, "a", "d"), (ONE, "a", "a"),
                          (APART, "a", "c")):
            self.refuses(InvalidTie, ears_with, web, a, b)

    def test_wrong_ties(self):
        for a, b in [("a", "c"), ("a", "h"), ("a", "a"), ("h", "c"), ("x", "y"), (("a", "b"), "b"),
                     *[(value, "a") for value in WRONG], *[("a", value) for value in OBJECTS], (None, None)]:
            self.refuses(InvalidTie, order_by_ears, WHEEL_EARS, a, b)

    def test_wrong_orders(self):
        for value in [("a", "b", "c"), ("a", "d", "c", "b"), ("a", "b", "d", "c", "h", "x"), ("a",), ("a", "a", "a"),
                      ("a", "b", "c", "d", "h", "h"), ["a", "d", "h", "c", "b"], ("a", "b", "c", "d", "x"),
                      ("a", "b", "d", "h", "c"), ("x", "b", "c", "d", "a"), *WRONG, *OBJECTS]:
            self.refuses(InvalidOrder, ears_by_order, WHEEL, value)
        # An order whose ends are not tied, and one that is none between tied ends.
        self.is_bool(is_order(WHEEL, "a", "c", ("a", "b", "d", "h", "c")), True)
        self.refuses(InvalidOrder, ears_by_order, WHEEL, ("a", "c", "h", "b", "d"))
        for web, value in ((TWO, ("a", "b")), (ONE, ("a",)), (APART, ("a", "c", "d", "b")), (TAIL, ("a", "b", "c", "d")),
                           (TAIL, ("a", "c", "d", "b")), (KITE, ("a", "b", "c", "d"))):
            self.refuses(InvalidOrder, ears_by_order, web, value)

    def test_nothing_changes(self):
        ears = ears_of(FOUR)
        web = Web(FOUR.places, FOUR.ties)
        order_by_ears(ears, *ears[0][:2])
        self.assertEqual((ears, FOUR, flat.web), (ears_of(FOUR), web, web))
