"""[6.1] to [6.4], [0.13]: drawing or bar."""

import itertools

from flatwebs.base.drawings import Drawing
from flatwebs.base.webs import Web, full_web, ring_web
from flatwebs.draw.bars import (
    bar_of, bar_ties, drawing_of, has_drawing, is_bar, is_keeping_paper, is_minor_bar, is_tight, keeping_paper,
    minor_bar)
from flatwebs.errors import InvalidBar, InvalidOperation, InvalidWeb
from flatwebs.tree.parts import PartTree
from tests.samples import (
    APART, BOW, CUBE, FOUR, GLUED, HOUSES, KITE, OBJECTS, OCTA, ONE, PETERSEN, PRISM, THREE, TWELVE, TWO, WHEEL,
    WRONG, Case, any_drawing, bent, every_full, flat, not_webs, slow_lots, some_webs, webs_on, woven_webs)

FIVE = every_full(5)
FORTY = Web(TWELVE, tuple(itertools.combinations(TWELVE, 2))[:40])
ROUTED = HOUSES.without_tie("a", "d") + Web.of_ties(("a", "x"), ("x", "y"), ("d", "y"))
TIGHT = [HOUSES, FIVE, ROUTED, FIVE.without_tie("a", "b") + Web.of_ties(("a", "z"), ("b", "z"))]
TAILED = HOUSES + Web.of_ties(("a", "k"), ("k", "l"))
FALLING = full_web(tuple("abcde")) + full_web(tuple("fghij"))
TWICE = full_web(tuple("abcde")) + full_web(tuple("efghi"))
SAMPLES = [ONE, TWO, BOW, GLUED, HOUSES, KITE, PRISM, WHEEL, FOUR, THREE, OCTA, CUBE, PETERSEN, FIVE, FORTY, ROUTED,
           TAILED, TWICE, ring_web(TWELVE), every_full(9), *TIGHT, *woven_webs(8, 10, 5), *woven_webs(12, 10, 6)]
SAMPLES += [web for many, ties in ((6, 9), (6, 11), (7, 13), (8, 15), (9, 18), (10, 17), (12, 18), (12, 26))
            for web in some_webs(many, ties, 20, many * ties) if web.hangs]
SMALL = [web for many in (1, 2, 3, 4) for web in webs_on(many) if web.hangs] + [
    web for web in webs_on(5) if web.hangs and len(web.ties) > 7] + [
    web for web in some_webs(6, 9, 40, 7) + some_webs(6, 10, 20, 8) if web.hangs] + [HOUSES]
ALL = (drawing_of, has_drawing, bar_of, is_tight, keeping_paper, minor_bar)
JUDGES = (is_bar, is_keeping_paper, is_minor_bar)


def slow_pairs(kind, places):
    return list(itertools.combinations(places, 2)) if kind == "five" else list(itertools.product(*places))


def slow_is_bar(web, value):
    """[6.1], as it is told."""
    if type(value) is not tuple or len(value) != 3 or value[0] not in ("five", "three"):
        return False
    kind, places, routes = value
    groups = places if kind == "three" else (places,)
    if type(routes) is not tuple or type(groups) is not tuple or len(groups) != (2 if kind == "three" else 1):
        return False
    for group in groups:
        if type(group) is not tuple or len(group) != (3 if kind == "three" else 5):
            return False
        if not all(type(p) is str and p in web.places for p in group) or list(group) != sorted(set(group)):
            return False
    corners = [p for group in groups for p in group]
    if len(set(corners)) != len(corners) or (kind == "three" and not places[0] < places[1]):
        return False
    wanted = slow_pairs(kind, places)
    if len(routes) != len(wanted):
        return False
    for route, (a, b) in zip(routes, wanted):
        if type(route) is not tuple or len(route) < 2 or (route[0], route[-1]) != (a, b):
            return False
        if not all(type(p) is str for p in route) or len(set(route)) != len(route) or set(route[1:-1]) & set(corners):
            return False
        if not all(tuple(sorted(step)) in web.ties for step in zip(route, route[1:])):
            return False
    return all(set(one) & set(other) <= {one[0], one[-1]} & {other[0], other[-1]}
               for one, other in itertools.combinations(routes, 2))


def slow_is_minor(web, value):
    """[6.4], as it is told."""
    if type(value) is not tuple or len(value) != 2 or value[0] not in ("five", "three"):
        return False
    kind, lots = value
    groups = lots if kind == "three" else (lots,)
    if type(groups) is not tuple or len(groups) != (2 if kind == "three" else 1):
        return False
    for group in groups:
        if type(group) is not tuple or len(group) != (3 if kind == "three" else 5):
            return False
        for lot in group:
            if type(lot) is not tuple or not all(type(p) is str and p in web.places for p in lot):
                return False
            if not lot or list(lot) != sorted(set(lot)) or len(slow_lots(lot, web.ties)) != 1:
                return False
        if list(group) != sorted(set(group)):
            return False
    every = [p for group in groups for lot in group for p in lot]
    if len(set(every)) != len(every) or (kind == "three" and not lots[0] < lots[1]):
        return False
    return all(any(tuple(sorted((a, b))) in web.ties for a in one for b in other)
               for one, other in slow_pairs(kind, lots))


def slow_is_paper(web, value):
    """[6.3], as it is told."""
    if type(value) is not tuple or len(value) != 2 or type(value[0]) is not tuple or type(value[1]) is not dict:
        return False
    kept, bars = value
    if not all(type(tie) is tuple and tie in web.ties for tie in kept) or list(kept) != sorted(set(kept)):
        return False
    if len(slow_lots(web.places, kept)) != 1 or drawing_of(Web(web.places, kept)) is None:
        return False
    others = set(web.ties) - set(kept)
    if set(bars) != others:
        return False
    return all(slow_is_bar(Web(web.places, tuple(sorted(kept + (tie,)))), bars[tie]) for tie in others)


def slow_is_tight(web):
    if drawing_of(web) is not None:
        return False
    for a, b in web.ties:
        rest = web.without_tie(a, b)
        for lot in rest.lots:
            if drawing_of(rest.without_places(tuple(p for p in rest.places if p not in lot))) is None:
                return False
    return True


class Examples(Case):

    def test_examples(self):
        self.assertEqual([str(drawing_of(FOUR)), len(drawing_of(KITE)), drawing_of(HOUSES), bar_of(WHEEL),
                          has_drawing(WHEEL)], ["drawing of 4 places, 6 ties, 4 rims", 3, None, None, True])
        bar = bar_of(HOUSES)
        self.assertEqual(
            [bar[:2], bar[2][:2], bar_ties(HOUSES, bar) == HOUSES.ties, is_tight(HOUSES), is_tight(FOUR),
             minor_bar(HOUSES)[1][0]],
            [("three", (("a", "b", "c"), ("d", "e", "f"))), (("a", "d"), ("a", "e")), True, True, False,
             (("a",), ("b",), ("c",))])
        kept, bars = keeping_paper(HOUSES)
        self.assertEqual(
            [len(kept), len(bars), keeping_paper(KITE) == (KITE.ties, {}),
             is_minor_bar(FOUR, ("five", (("a",), ("b",), ("c",), ("d",))))], [8, 1, True, False])


class DrawingOrBar(Case):

    def test_one_of_both(self):
        for web in SAMPLES + SMALL:
            drawing = drawing_of(web)
            bar = bar_of(web)
            self.is_bool(has_drawing(web), drawing is not None)
            if drawing is None:
                self.assertTrue(slow_is_bar(web, bar), (web.ties, bar))
                self.is_bool(is_bar(web, bar), True)
                ties = [tuple(sorted(step)) for route in bar[2] for step in zip(route, route[1:])]
                self.assertEqual(bar_ties(web, bar), tuple(sorted(set(ties))))
            else:
                self.assertIs(bar, None)
                self.assertIs(type(drawing), Drawing)
                self.assertEqual(drawing.web, web)
            self.assertEqual(drawing_of(web), drawing)
            self.assertEqual(bar_of(web), bar)

    def test_all_tables(self):
        for web in SMALL:
            self.is_bool(has_drawing(web), any_drawing(web) is not None)

    def test_edges(self):
        self.assertEqual(drawing_of(ONE), Drawing(ONE, {"a": ()}))
        self.assertEqual(drawing_of(TWO), Drawing(TWO, {"a": ("b",), "b": ("a",)}))
        self.assertEqual([has_drawing(every_full(many)) for many in range(1, 10)], [True] * 4 + [False] * 5)
        self.assertEqual([bar_of(FIVE)[0], bar_of(PETERSEN)[0], bar_of(ROUTED)[0]], ["five", "three", "three"])
        self.assertEqual([bar_of(web) is None for web in (TAILED, TWICE, FORTY)], [False] * 3)
        for web in (TWELVE_FLAT, TWELVE_FLAT.without_tie("a", "b")):
            self.assertEqual(drawing_of(web).web, web)

    def test_bars_by_hand(self):
        bar = ("three", (("a", "b", "c"), ("d", "e", "f")), tuple(itertools.product("abc", "def")))
        self.is_bool(is_bar(HOUSES, bar), True)
        self.is_bool(is_bar(every_full(6), bar), True)
        self.is_bool(is_bar(PRISM, bar), False)
        turned = ("three", (("d", "e", "f"), ("a", "b", "c")), tuple(itertools.product("def", "abc")))
        self.is_bool(is_bar(HOUSES, turned), False)
        self.is_bool(is_bar(ROUTED, (*bar[:2], (("a", "x", "y", "d"),) + bar[2][1:])), True)
        self.is_bool(is_bar(ROUTED, (*bar[:2], (("a", "y", "x", "d"),) + bar[2][1:])), False)
        self.is_bool(is_bar(every_full(6), (*bar[:2], (("a", "b", "d"),) + bar[2][1:])), False)
        eight = every_full(7)
        self.is_bool(is_bar(eight, (*bar[:2], (("a", "g", "d"),) + bar[2][1:])), True)
        self.is_bool(is_bar(eight, (*bar[:2], (("a", "g", "d"), ("a", "g", "e")) + bar[2][2:])), False)
        five = ("five", tuple("abcde"), tuple(itertools.combinations("abcde", 2)))
        self.is_bool(is_bar(FIVE, five), True)
        self.is_bool(is_bar(FIVE, ("five", tuple("abcde"), five[2][::-1])), False)
        self.is_bool(is_bar(FIVE, ("five", tuple("edcba"), five[2])), False)
        self.is_bool(is_bar(eight, ("five", five[1], (("a", "f", "g", "b"),) + five[2][1:])), True)
        self.is_bool(is_bar(eight, ("five", five[1], (("a", "c", "b"),) + five[2][1:])), False)

    def test_near_bars(self):
        for web in (HOUSES, FIVE, ROUTED, PETERSEN, every_full(7)):
            found = bar_of(web)
            for value in bent(found):
                self.is_bool(is_bar(web, value), slow_is_bar(web, value))
                if not slow_is_bar(web, value):
                    self.refuses(InvalidBar, bar_ties, web, value)

    def test_tight(self):
        for web in SAMPLES:
            self.is_bool(is_tight(web), slow_is_tight(web))
        self.assertEqual([is_tight(web) for web in TIGHT], [True] * 4)
        self.assertEqual([is_tight(web) for web in (TAILED, ONE, TWICE, every_full(6), PETERSEN)], [False] * 5)


class Papers(Case):

    def test_papers(self):
        for web in SAMPLES[::2]:
            paper = keeping_paper(web)
            self.assertTrue(slow_is_paper(web, paper), web.ties)
            self.is_bool(is_keeping_paper(web, paper), True)
            self.assertEqual(list(paper[1]), sorted(paper[1]))
            self.is_bool(paper == (web.ties, {}), has_drawing(web))
            self.assertEqual(keeping_paper(web), paper)

    def test_papers_by_hand(self):
        kept = tuple(tie for tie in FIVE if tie != ("b", "c"))
        bar = bar_of(FIVE)
        self.is_bool(is_keeping_paper(FIVE, (kept, {("b", "c"): bar})), True)
        self.is_bool(is_keeping_paper(FIVE, (kept, {})), False)
        self.is_bool(is_keeping_paper(FIVE, (kept, {("b", "c"): bar, ("a", "b"): bar})), False)
        self.is_bool(is_keeping_paper(FIVE, (kept[:-1], {("b", "c"): bar, ("d", "e"): bar})), False)
        self.is_bool(is_keeping_paper(FIVE, (FIVE.ties, {})), False)
        self.is_bool(is_keeping_paper(KITE, (KITE.ties, {})), True)
        self.is_bool(is_keeping_paper(ONE, ((), {})), True)
        self.is_bool(is_keeping_paper(TWO, ((), {("a", "b"): bar})), False)
        # Kept ties by which not all places hang together.
        self.is_bool(is_keeping_paper(TAILED, (keeping_paper(HOUSES)[0], {})), False)
        for web in (TWO, KITE, BOW, HOUSES, TAILED, FIVE):
            for kept in ((), web.ties[:1], web.ties[-2:]):
                bars = {tie: bar_of(web) or bar for tie in web.ties if tie not in kept}
                self.is_bool(is_keeping_paper(web, (kept, bars)), slow_is_paper(web, (kept, bars)))
        six = every_full(6)
        kept, bars = keeping_paper(six)
        self.is_bool(is_keeping_paper(six, (kept, {tie: bars[tie] for tie in reversed(list(bars))})), True)
        self.is_bool(is_keeping_paper(six, (kept[::-1], bars)), False)
        other = next(tie for tie in bars if bars[tie] != bars[list(bars)[0]])
        self.is_bool(is_keeping_paper(six, (kept, {**bars, other: bars[list(bars)[0]]})), False)

    def test_near_papers(self):
        for web in (HOUSES, FIVE, KITE, ROUTED):
            for value in bent(keeping_paper(web)):
                self.is_bool(is_keeping_paper(web, value), slow_is_paper(web, value))


class MinorBars(Case):

    def test_minor_bars(self):
        for web in SAMPLES:
            found = minor_bar(web)
            if has_drawing(web):
                self.assertIs(found, None)
            else:
                self.assertTrue(slow_is_minor(web, found), (web.ties, found))
                self.is_bool(is_minor_bar(web, found), True)
                self.assertEqual(minor_bar(web), found)

    def test_minor_bars_by_hand(self):
        # The web of Petersen has a bar of three and three only, but minor bars of both kinds.
        five = ("five", tuple(zip("abcde", "fghij")))
        self.is_bool(is_minor_bar(PETERSEN, five), True)
        self.assertEqual(bar_of(PETERSEN)[0], "three")
        self.is_bool(is_minor_bar(PETERSEN, ("five", five[1][::-1])), False)
        self.is_bool(is_minor_bar(PETERSEN, ("five", (("f", "a"),) + five[1][1:])), False)
        self.is_bool(is_minor_bar(PETERSEN, ("five", (("a",),) + five[1][1:])), False)
        self.is_bool(is_minor_bar(FIVE, ("five", tuple(zip("abcde")))), True)
        self.is_bool(is_minor_bar(FIVE, ("five", (("a", "b"), ("b",), ("c",), ("d",), ("e",)))), False)
        self.is_bool(is_minor_bar(FIVE, ("five", ((), ("b",), ("c",), ("d",), ("e",)))), False)
        self.is_bool(is_minor_bar(HOUSES, ("three", (tuple(zip("abc")), tuple(zip("def"))))), True)
        self.is_bool(is_minor_bar(HOUSES, ("three", (tuple(zip("def")), tuple(zip("abc"))))), False)
        self.is_bool(is_minor_bar(HOUSES, ("three", (tuple(zip("abd")), tuple(zip("cef"))))), False)
        self.is_bool(is_minor_bar(ROUTED, ("three", (((("a", "x")), ("b",), ("c",)), (("d", "y"), ("e",), ("f",))))),
                     True)
        self.is_bool(is_minor_bar(ROUTED, ("three", (((("a", "y")), ("b",), ("c",)), (("d", "x"), ("e",), ("f",))))),
                     False)
        self.is_bool(is_minor_bar(every_full(7), ("three", (tuple(zip("bcd")), (("a", "g"), ("e",), ("f",))))), False)
        self.is_bool(is_minor_bar(every_full(7), ("three", ((("a", "g"), ("e",), ("f",)), tuple(zip("bcd"))))), True)

    def test_lots_in_order(self):
        # What lies within a route comes ahead of the place to whose lot it goes.
        five = full_web(tuple("bcdef")).without_tie("c", "d") + Web.of_ties(("a", "c"), ("a", "d"))
        three = HOUSES.renamed(dict(zip("abcdef", "bcdefg"))).without_tie("c", "e") + Web.of_ties(
            ("a", "c"), ("a", "e"))
        for web in (five, three):
            self.assertTrue(slow_is_minor(web, minor_bar(web)))
            self.is_bool(is_minor_bar(web, minor_bar(web)), True)

    def test_near_minor_bars(self):
        for web in (HOUSES, FIVE, ROUTED, PETERSEN, every_full(7)):
            for value in bent(minor_bar(web)):
                self.is_bool(is_minor_bar(web, value), slow_is_minor(web, value))
        for value in bent(("five", tuple(zip("abcde", "fghij")))):
            self.is_bool(is_minor_bar(PETERSEN, value), slow_is_minor(PETERSEN, value))


class Wrong(Case):

    def test_wrong_values(self):
        bar = bar_of(HOUSES)
        values = [*WRONG, *OBJECTS, bar[1], bar[2], ("five", *bar[1:]), ("three", bar[1]), PartTree.of_web(KITE)]
        for value in values:
            for call in JUDGES:
                for web in (HOUSES, FIVE, KITE):
                    self.is_bool(call(web, value), False)
            self.refuses(InvalidBar, bar_ties, HOUSES, value)
            for kind in ("five", "three"):
                for made in ((kind, value, value), (kind, value, bar[2]), (kind, bar[1], value),
                             (kind, (value, value), bar[2]), (value, bar[1], bar[2])):
                    self.is_bool(is_bar(HOUSES, made), slow_is_bar(HOUSES, made))
                for made in ((kind, value), (kind, (value, value)), (value, bar[1])):
                    self.is_bool(is_minor_bar(HOUSES, made), False)
            kept, bars = keeping_paper(HOUSES)
            for made in ((kept, value), (value, bars), (kept, {tie: value for tie in bars}), (kept, {**bars, 1: value})):
                self.is_bool(is_keeping_paper(HOUSES, made), False)
        self.refuses(InvalidBar, bar_ties, FOUR, None)
        self.refuses(InvalidBar, bar_ties, PRISM, bar)

    def test_wrong_webs(self):
        for value in not_webs():
            for call in ALL:
                self.refuses(InvalidWeb, call, value)
            for call in (*JUDGES, bar_ties):
                self.refuses(InvalidWeb, call, value, None)
        for web in (APART, FALLING, Web(TWELVE, ()), KITE.with_place("z")):
            for call in ALL:
                self.refuses(InvalidOperation, call, web)
            for call in (*JUDGES, bar_ties):
                self.refuses(InvalidOperation, call, web, None)
        self.assertEqual(flat.web, FOUR)


# Twelve places and thirty ties: as many as a drawing can have.
TWELVE_FLAT = Web(TWELVE, tuple(sorted({tuple(sorted(pair)) for k in range(5) for pair in (
    ("a", "bcdef"[k]), ("bcdef"[k], "bcdef"[k - 1]), ("bcdef"[k], "ghijk"[k]), ("bcdef"[k], "ghijk"[k - 1]),
    ("ghijk"[k], "ghijk"[k - 1]), ("l", "ghijk"[k]))})))
