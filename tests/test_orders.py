"""[11.1] to [11.3], [0.18]: orders."""

import itertools

from flatwebs.base.webs import Web, full_web, ring_web
from flatwebs.errors import InvalidOperation, InvalidWeb, UnknownName
from flatwebs.rank.orders import count_orders, each_order, is_order, is_stop, order_from, stop_for
from tests.samples import (
    APART, BOW, CUBE, FOUR, GLUED, HOUSES, KITE, OBJECTS, OCTA, ONE, PETERSEN, PRISM, THREE, TWELVE, TWO, WHEEL,
    WRONG, Case, bent, not_webs, slow_is_block, slow_lots, some_webs, webs_on, woven_webs)

FORTY = Web(TWELVE, tuple(itertools.combinations(TWELVE, 2))[:40])
ROW = Web.of_ties(*zip(TWELVE, TWELVE[1:]))
TAIL = Web.of_ties(("a", "b"), ("b", "c"), ("a", "c"), ("c", "d"))
WEBS = [*webs_on(3), *webs_on(4), *list(webs_on(5))[::7], BOW, GLUED, HOUSES, KITE, PRISM, WHEEL, APART, THREE, TAIL,
        *some_webs(6, 8, 10, 61), *woven_webs(6, 5, 62)]
GREAT = [CUBE, OCTA, PETERSEN, ROW, FORTY, ring_web(TWELVE), Web(TWELVE, ()), *woven_webs(12, 10, 63),
         *some_webs(12, 18, 10, 64), *some_webs(9, 11, 10, 65)]


def slow_is_order(web, a, b, row):
    """[11.1], as it is told."""
    if sorted(row) != list(web.places) or row[0] != a or row[-1] != b:
        return False
    return all(set(web.neighbours(row[k])) & set(row[:k]) and set(web.neighbours(row[k])) & set(row[k + 1:])
               for k in range(1, len(row) - 1))


def slow_orders(web, a, b):
    rest = [place for place in web.places if place not in (a, b)]
    rows = [(a, *row, b) for row in itertools.permutations(rest)]
    return [row for row in rows if slow_is_order(web, a, b, row)]


def slow_is_stop(web, a, b, place):
    """[11.2], as it is told."""
    return len(slow_lots([p for p in web.places if p != place], [
        tie for tie in (*web.ties, tuple(sorted((a, b)))) if place not in tie])) > 1


def ends_of(web):
    return list(itertools.permutations(web.places, 2))


class Examples(Case):

    def test_examples(self):
        self.assertEqual(
            [order_from(PRISM, "a", "b") is None, is_order(PRISM, "a", "f", ("a", "b", "c", "d", "e", "f")),
             is_order(PRISM, "a", "f", ("a", "e", "b", "c", "d", "f")), count_orders(WHEEL, "a", "c")],
            [False, True, False, 6])
        self.assertEqual(
            [order_from(TAIL, "a", "b"), stop_for(TAIL, "a", "b"), stop_for(TAIL, "a", "d"),
             list(each_order(TAIL, "a", "d")), is_stop(TAIL, "a", "b", "d")],
            [None, "c", None, [("a", "b", "c", "d")], False])


class Orders(Case):

    def test_orders_by_force(self):
        for web in WEBS:
            for a, b in ends_of(web):
                slow = slow_orders(web, a, b)
                self.assertEqual(list(each_order(web, a, b)), slow)
                self.assertEqual(count_orders(web, a, b), len(slow))
                found = order_from(web, a, b)
                self.assertTrue(found in slow if slow else found is None)
                self.assertEqual([row[::-1] for row in slow], [
                    row for row in (one[::-1] for one in slow) if slow_is_order(web, b, a, row)])

    def test_all_rows(self):
        for web in (KITE, TAIL, THREE, APART, ring_web(tuple("abcd")), *list(webs_on(4))[::9]):
            for a, b in ends_of(web):
                slow = slow_orders(web, a, b)
                for row in itertools.permutations(web.places):
                    self.is_bool(is_order(web, a, b, row), row in slow)

    def test_order_or_stop(self):
        for web in WEBS + GREAT:
            for a, b in ends_of(web)[::1 if len(web) < 8 else 41]:
                order = order_from(web, a, b)
                stop = stop_for(web, a, b)
                self.is_bool(order is None, stop is not None)
                stops = [place for place in web.places if slow_is_stop(web, a, b, place)]
                for place in web.places:
                    self.is_bool(is_stop(web, a, b, place), place in stops)
                if stop is not None:
                    self.assertIn(stop, stops)
                    self.assertEqual(count_orders(web, a, b), 0)
                    self.assertEqual(list(each_order(web, a, b)), [])
                else:
                    self.assertTrue(slow_is_order(web, a, b, order))
                    self.is_bool(is_order(web, a, b, order), True)
                    self.is_bool(is_order(web, b, a, order[::-1]), True)
                    for many in range(1, len(order) + 1):
                        # [11.3]
                        self.assertEqual(len(slow_lots(order[:many], web.ties)), 1)
                        self.assertEqual(len(slow_lots(order[-many:], web.ties)), 1)
                if web.is_tied(a, b):
                    self.is_bool(stop is None, slow_is_block(web))
                self.assertEqual([order_from(web, a, b), stop_for(web, a, b)], [order, stop])

    def test_many_orders(self):
        # Only the first ones are made, and so at once.
        first = list(itertools.islice(each_order(FORTY, "a", "l"), 3))
        self.assertEqual(first[0], tuple("abcefghijkdl"))
        self.assertEqual(first, sorted(first))
        self.assertTrue(all(slow_is_order(FORTY, "a", "l", row) for row in first))
        self.assertEqual(count_orders(FORTY, "a", "l"), 1088640)
        self.assertEqual(count_orders(ring_web(TWELVE), "a", "g"), 252)
        self.assertEqual(list(each_order(ring_web(TWELVE), "a", "l")), [TWELVE])
        # Two places and ten more that are tied to both: any order of the ten.
        both = Web.of_ties(*[tuple(sorted(pair)) for pair in itertools.product("al", "bcdefghijk")])
        self.assertEqual(count_orders(both, "a", "l"), 3628800)
        self.assertEqual(list(itertools.islice(each_order(both, "l", "a"), 2)), [
            tuple("lbcdefghijka"), tuple("lbcdefghikja")])

    def test_edges(self):
        three = full_web(("a", "b", "c"))
        self.assertEqual([order_from(three, "a", "b"), count_orders(three, "c", "a")], [("a", "c", "b"), 1])
        line = Web.of_ties(("a", "b"), ("b", "c"))
        self.assertEqual([order_from(line, "a", "c"), stop_for(line, "a", "b")], [("a", "b", "c"), "b"])
        loose = Web(("a", "b", "c"), (("a", "b"),))
        self.assertEqual([is_stop(loose, "a", "b", place) for place in "abc"], [True, True, False])
        self.assertEqual([is_stop(loose, "a", "c", place) for place in "abc"], [True, False, False])
        self.assertEqual([order_from(ROW, "a", "l"), count_orders(ROW, "a", "k")], [TWELVE, 0])
        # The forty-first tie is put in for a stop, too.
        self.assertFalse(FORTY.is_tied("k", "l"))
        self.assertIs(stop_for(FORTY, "k", "l"), None)

    def test_near_orders(self):
        for web, a, b in ((PRISM, "a", "f"), (KITE, "a", "d"), (TAIL, "a", "d"), (FOUR, "a", "b")):
            order = order_from(web, a, b)
            for value in bent(order):
                right = type(value) is tuple and value in slow_orders(web, a, b)
                self.is_bool(is_order(web, a, b, value), right)


class Wrong(Case):

    def first(self, web, a, b):
        return next(each_order(web, a, b))

    def calls(self):
        return [order_from, stop_for, count_orders, self.first, lambda *args: is_order(*args, None),
                lambda *args: is_stop(*args, None)]

    def test_wrong_values(self):
        for value in [("a", "b", "c"), ("a", "d", "c", "b"), ("a", "b", "c", "d", "d"), list("abcd"), "abcd",
                      ("a", "b", "c", "x"), ("a", None, "c", "d"), *WRONG, *OBJECTS]:
            self.is_bool(is_order(KITE, "a", "d", value), False)
            self.is_bool(is_stop(TAIL, "a", "b", value), False)
        for value in ("a", "b", "d", "x", ("c",), ["c"]):
            self.is_bool(is_stop(TAIL, "a", "b", value), False)
        self.is_bool(is_stop(TAIL, "a", "b", "c"), True)

    def test_wrong_webs(self):
        for value in not_webs():
            for call in self.calls():
                self.refuses(InvalidWeb, call, value, None, None)
            each_order(value, None, None)

    def test_wrong_places(self):
        for value in ["x", "ab", *WRONG, *OBJECTS]:
            for web in (KITE, ONE, TWO):
                for call in self.calls():
                    self.refuses(UnknownName, call, web, value, "zz", word=value)
                    self.refuses(UnknownName, call, web, "a", value, word=value)
                    self.refuses(UnknownName, call, web, value, value, word=value)
                each_order(web, value, value)

    def test_no_orders_at_all(self):
        for web, a, b in ((KITE, "a", "a"), (TWO, "a", "b"), (ONE, "a", "a"), (TWO, "b", "b")):
            for call in self.calls():
                self.refuses(InvalidOperation, call, web, a, b)
            each_order(web, a, b)
