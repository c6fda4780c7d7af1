"""[16.1] to [16.7], [0.22] and [0.23]: outer webs."""

import itertools
import random

from flatwebs.base.drawings import Drawing
from flatwebs.base.rings import each_ring, plain_ring
from flatwebs.base.webs import Web, ring_web
from flatwebs.errors import InvalidColours, InvalidDrawing, InvalidOperation, InvalidRoute, InvalidTie, InvalidWeb
from flatwebs.outer.webs import (
    count_full, do_cross, drawing_by_ring, each_full, filled_web, inner_tree, is_full, is_outer_choice,
    is_outer_drawing, is_outer_ring, is_outer_web, is_reason, outer_choice, outer_drawings, outer_ring,
    reason_against)
from flatwebs.tree.partings import all_blocks, block_web
from tests.samples import (
    APART, BOW, FOUR, GLUED, HOUSES, KITE, OBJECTS, ONE, PRISM, TWELVE, TWO, WHEEL, WRONG, Case, all_tables,
    any_drawing, every_full, flat, not_drawings, not_webs, slow_is_block, some_webs, webs_on)

FAN = KITE.with_place("e").with_tie("b", "e").with_tie("d", "e")
FORTY = Web(TWELVE, tuple(itertools.combinations(TWELVE, 2))[:40])
SAMPLES = [ONE, TWO, APART, BOW, GLUED, HOUSES, KITE, PRISM, WHEEL, FOUR, FAN, FORTY, *webs_on(4),
           *some_webs(5, 6, 40, 1), *some_webs(5, 7, 40, 2), *some_webs(6, 8, 80, 3), *some_webs(6, 9, 80, 4)]
BLOCKS = [web for web in SAMPLES if slow_is_block(web)]
NO_BLOCKS = [web for web in SAMPLES if not slow_is_block(web)]
PLAIN_RINGS = [("a", "b", "c"), ("a", "c", "b", "d"), ("a", "c", "b", "e", "d"), ("a", "f", "c", "b", "e", "g"),
               ("ab", "b", "abc", "z", "y", "x", "c")]
SQUARE = ring_web(("a", "b", "c", "d"))


def crosses(ring, one, other):
    """Whether two ties cross, told by the order in which one meets their ends."""
    word = ["x" if place in one else "o" for place in ring if place in one + other]
    return not set(one) & set(other) and "".join(word) in ("xoxo", "oxox")


def slow_outer_rings(web):
    """All outer rings, among all rings through all places."""
    rings = [ring for ring in itertools.permutations(web.places) if ring[0] == web.places[0] and ring[1] < ring[-1]]
    pairs = [(ring, [tuple(sorted((ring[k - 1], ring[k]))) for k in range(len(ring))]) for ring in rings]
    rings = [ring for ring, sides in pairs if set(sides) <= set(web.ties)]
    return [ring for ring in rings
            if not any(crosses(ring, one, other) for one, other in itertools.combinations(web.ties, 2))]


def slow_full(ring):
    """All full outer webs with an outer ring, by all sets of ties across."""
    sides = {tuple(sorted((ring[k - 1], ring[k]))) for k in range(len(ring))}
    across = [pair for pair in itertools.combinations(sorted(ring), 2) if pair not in sides]
    webs = []
    for row in itertools.combinations(across, len(ring) - 3):
        if not any(crosses(ring, one, other) for one, other in itertools.combinations(row, 2)):
            webs.append(Web(tuple(sorted(ring)), tuple(sorted(sides | set(row)))))
    return sorted(webs, key=lambda web: web.ties)


def choices(web, lists):
    """All choices, by all rows of numbers."""
    for row in itertools.product(*[lists[place] for place in web.places]):
        value = dict(zip(web.places, row))
        if all(value[a] != value[b] for a, b in web):
            yield value


class Examples(Case):

    def test_examples(self):
        self.assertEqual(
            [outer_ring(KITE), outer_ring(FAN), outer_ring(FOUR),
             do_cross(("a", "b", "d", "c"), ("a", "d"), ("b", "c")), reason_against(FOUR)[:2], reason_against(FAN)],
            [("a", "b", "d", "c"), ("a", "b", "e", "d", "c"), None, True, ("four", ("a", "b", "c", "d")), None])
        self.assertEqual(
            [drawing_by_ring(KITE, ("b", "d", "c", "a")).rims, len(outer_drawings(KITE)),
             len(outer_drawings(SQUARE)), is_outer_drawing(flat)],
            [(("a", "b", "d", "c"), ("a", "c", "b"), ("b", "c", "d")), 2, 1, False])
        self.assertEqual(
            [inner_tree(drawing_by_ring(KITE, ("a", "b", "d", "c"))), is_full(KITE),
             count_full(("a", "b", "c", "d", "e")), [len(web.ties) for web in each_full(("a", "b", "c", "d"))]],
            [((("a", "c", "b"), ("b", "c", "d")), ((0, 1),)), True, 5, [5, 5]])
        value = ("two", (("a", "b"), ("d", "e", "f")),
                 (("a", "d"), ("a", "e"), ("a", "f"), ("b", "d"), ("b", "e"), ("b", "f")))
        self.assertEqual(
            [is_reason(HOUSES, value), is_outer_web(HOUSES), is_outer_web(Web.of_ties(("a", "b"), ("b", "c")))],
            [True, False, True])
        self.assertEqual(
            [outer_choice(ring_web(("a", "b", "c")), {"a": (0,), "b": (0, 1), "c": (0, 1, 2)}),
             outer_choice(FOUR, {name: (0, 1, 2) for name in "abcd"})],
            [{"a": 0, "b": 1, "c": 2}, None])


class Rings(Case):

    def test_crossing(self):
        for ring in (("a", "b", "c", "d"), ("b", "d", "a", "e", "c"), ("a", "b", "c")):
            ties = list(itertools.combinations(sorted(ring), 2))
            for one, other in itertools.product(ties, repeat=2):
                self.is_bool(do_cross(ring, one, other), crosses(ring, one, other))
        long = tuple("abcdefghijklmnop")
        self.is_bool(do_cross(long, ("a", "o"), ("b", "p")), True)

    def test_crossing_refuses(self):
        ring = ("a", "c", "b", "d")
        for wrong in [("a", "b"), ("a", "b", "a", "c"), ["a", "b", "c"], "abcd", ("a", "b", 3), *WRONG, *OBJECTS]:
            self.refuses(InvalidRoute, do_cross, wrong, ("a", "b"), None)
        for wrong in [("b", "a"), ("a", "a"), ("a", "x"), ("a",), ("a", "b", "c"), ["a", "b"], "ab", *WRONG,
                      *OBJECTS]:
            self.refuses(InvalidTie, do_cross, ring, wrong, ("a", "b"))
            self.refuses(InvalidTie, do_cross, ring, ("a", "b"), wrong)
        self.refuses(InvalidTie, do_cross, ("b", "d", "c"), ("a", "b"), ("b", "c"))
        self.refuses(InvalidTie, do_cross, ("b", "d", "c"), ("b", "c"), ("a", "b"))

    def test_outer_rings(self):
        found = 0
        for web in BLOCKS:
            if len(web) > 6:
                continue
            rings = slow_outer_rings(web)
            self.assertLess(len(rings), 2)
            self.assertEqual(outer_ring(web), rings[0] if rings else None)
            found += len(rings)
            for ring in [*list(itertools.permutations(web.places))[::7], *rings]:
                self.is_bool(is_outer_ring(web, ring), [ring] == rings)
        self.assertGreater(found, 20)
        self.assertEqual(outer_ring(FORTY), None)
        self.assertEqual(outer_ring(ring_web(TWELVE)), TWELVE)

    def test_two_places_with_two_neighbours_beside_one_another(self):
        # "e" and "f" both could stand between "a" and "b": with a third way that is no outer ring.
        web = Web.of_ties(("a", "c"), ("a", "e"), ("a", "f"), ("b", "c"), ("b", "e"), ("b", "f"))
        self.assertEqual([outer_ring(web), is_outer_ring(web, None)], [None, False])

    def test_no_rings(self):
        for value in [None, ("a", "c", "d", "b"), ("b", "d", "c", "a"), ["a", "b", "d", "c"], "abdc", *WRONG,
                      *OBJECTS]:
            self.is_bool(is_outer_ring(KITE, value), False)
            self.is_bool(is_outer_ring(FOUR, value), False)

    def test_errors_of_webs(self):
        calls = (outer_ring, outer_drawings, is_full, filled_web)
        for web in NO_BLOCKS:
            for call in calls:
                self.refuses(InvalidOperation, call, web)
            self.refuses(InvalidOperation, is_outer_ring, web, None)
            self.refuses(InvalidOperation, drawing_by_ring, web, None)
        for value in not_webs():
            for call in calls + (reason_against, is_outer_web):
                self.refuses(InvalidWeb, call, value)
            for call in (is_outer_ring, drawing_by_ring, is_reason, outer_choice):
                self.refuses(InvalidWeb, call, value, None)
            self.refuses(InvalidWeb, is_outer_choice, value, None, None)


class Reasons(Case):

    def test_reason_or_rings(self):
        kinds = set()
        for web in SAMPLES + [every_full(9), *some_webs(12, 20, 10, 5), *some_webs(12, 13, 10, 6)]:
            blocks = [block_web(web, block) for block in all_blocks(web) if len(block) > 2]
            is_outer = all(outer_ring(block) is not None for block in blocks)
            self.is_bool(is_outer_web(web), is_outer)
            reason = reason_against(web)
            self.is_bool(reason is None, is_outer)
            if reason:
                kinds.add(reason[0])
                self.is_bool(is_reason(web, reason), True)
                self.no_neighbours_of_a_reason(web, reason)
        self.assertEqual(kinds, {"four", "two"})

    def no_neighbours_of_a_reason(self, web, reason):
        kind, places, routes = reason
        other = "two" if kind == "four" else "four"
        rows = [routes[1:], routes[:-1], routes[::-1], routes + routes[-1:], list(routes), routes[:-1] + (None,),
                (routes[0][::-1],) + routes[1:], (list(routes[0]),) + routes[1:], (routes[0][:1],) + routes[1:],
                (routes[0] + ("zz",),) + routes[1:], (), None, "routes", routes[:-1] + (routes[0],)]
        wrong = [(kind, places, row) for row in rows]
        wrong += [(kind, row, routes) for row in (places[1:], places[::-1], list(places), None, "abcd", (), True)]
        wrong += [(other, places, routes), (True, places, routes), reason[:2], reason + (1,), list(reason), ()]
        for value in wrong + [web]:
            self.is_bool(is_reason(web, value), False)

    def test_by_hand(self):
        routes = (("a", "b"), ("a", "c"), ("a", "d"), ("b", "c"), ("b", "d"), ("c", "d"))
        self.is_bool(is_reason(FOUR, ("four", ("a", "b", "c", "d"), routes)), True)
        self.is_bool(is_reason(KITE, ("four", ("a", "b", "c", "d"), routes)), False)
        self.is_bool(is_reason(FOUR.with_place("e"), ("four", ("a", "b", "c", "d"), routes)), True)
        # A route over a place of the tuple, and two routes over one place.
        routes = (("a", "h", "b"), ("a", "d"), ("a", "h", "c"), ("b", "c"), ("b", "h"), ("d", "c"))
        self.is_bool(is_reason(WHEEL, ("four", ("a", "b", "c", "d"), routes)), False)
        four = (("a", "b"), ("a", "d", "c"), ("a", "h"), ("b", "c"), ("b", "h"), ("c", "h"))
        self.is_bool(is_reason(WHEEL, ("four", ("a", "b", "c", "h"), four)), True)
        self.is_bool(is_reason(WHEEL, ("four", ("a", "b", "c", "h"), four[:5] + (("c", "d", "h"),))), False)
        self.is_bool(is_reason(WHEEL, ("four", ("a", "b", "c", "h"), four[:2] + (("a", "b", "h"),) + four[3:])), False)
        two = (("a", "b"), ("a", "d"), ("a", "h"), ("c", "b"), ("c", "d"), ("c", "h"))
        self.is_bool(is_reason(WHEEL, ("two", (("a", "c"), ("b", "d", "h")), two)), True)
        self.is_bool(is_reason(WHEEL, ("two", (("a", "c"), ("b", "c", "h")), two)), False)
        self.is_bool(is_reason(WHEEL, ("two", (("c", "a"), ("b", "d", "h")), two[3:] + two[:3])), False)
        self.is_bool(is_reason(WHEEL, ("two", (("a", "c"), ("b", "h", "d")), two)), False)
        self.is_bool(is_reason(WHEEL, ("two", (("b", "d", "h"), ("a", "c")), two)), False)
        self.is_bool(is_reason(WHEEL, ("two", (("a", "c"), ("b", "d", "h"), ()), two)), False)

    def test_too_many_places(self):
        # What is a bar of stage 6 is no reason.
        five = every_full(5)
        self.is_bool(is_reason(five, ("four", five.places, five.ties)), False)
        self.is_bool(is_reason(HOUSES, ("two", (("a", "b", "c"), ("d", "e", "f")), HOUSES.ties)), False)
        self.is_bool(is_reason(FOUR, ("four", ("a", "b", "c"), (("a", "b"), ("a", "c"), ("b", "c")))), False)

    def test_routes_that_meet(self):
        web = Web.of_ties(*[(a, x) for a in "ab" for x in "dexy"], ("x", "y"), ("e", "x"), ("c", "x"), ("c", "y"))
        places = (("a", "b"), ("c", "d", "e"))
        good = (("a", "y", "c"), ("a", "d"), ("a", "e"), ("b", "x", "c"), ("b", "d"), ("b", "e"))
        self.is_bool(is_reason(web, ("two", places, good)), True)
        meets = (("a", "y", "c"), ("a", "d"), ("a", "e"), ("b", "x", "c"), ("b", "d"), ("b", "x", "e"))
        self.is_bool(is_reason(web, ("two", places, meets)), False)
        over = good[:3] + (("b", "e", "x", "c"),) + good[4:]
        self.is_bool(is_reason(web, ("two", places, over)), False)

    def test_wrong_values(self):
        for value in WRONG + OBJECTS:
            for web in (FOUR, HOUSES, KITE, ONE):
                self.is_bool(is_reason(web, value), False)
            self.is_bool(is_reason(FOUR, ("four", value, value)), False)
            self.is_bool(is_reason(FOUR, ("two", (value, value), value)), False)
            self.is_bool(is_reason(FOUR, ("four", ("a", "b", "c", "d"), (value,) * 6)), False)
            self.is_bool(is_reason(FOUR, (value, ("a", "b", "c", "d"), ())), False)


class Drawings(Case):

    def test_by_rings(self):
        for web in BLOCKS:
            ring = outer_ring(web)
            if ring is None:
                continue
            for row in (ring, ring[2:] + ring[:2], ring[::-1], ring[:1] + ring[:0:-1]):
                drawing = drawing_by_ring(web, row)
                at = row.index(web.places[0])
                self.assertEqual(drawing.web, web)
                self.assertIn(row[at:] + row[:at], drawing)
                self.is_bool(is_outer_drawing(drawing), True)
            self.assertEqual(drawing_by_ring(web, ring[::-1]), drawing_by_ring(web, ring).mirror)

    def test_by_ring_refuses(self):
        for wrong in [("a", "b", "c", "d"), ("a", "b", "d"), ["a", "b", "d", "c"], ("a", "b"), "abdc", *WRONG,
                      *OBJECTS]:
            self.refuses(InvalidRoute, drawing_by_ring, KITE, wrong)
            self.refuses(InvalidRoute, drawing_by_ring, FOUR, wrong)

    def test_outer_drawings(self):
        for web in BLOCKS:
            if len(web) > 5:
                continue
            all_of_them = []
            for table in all_tables(web):
                try:
                    drawing = Drawing(web, table)
                except InvalidDrawing:
                    continue
                is_outer = any(len(rim) == len(web) for rim in drawing)
                self.is_bool(is_outer_drawing(drawing), is_outer)
                if is_outer:
                    all_of_them.append(drawing)
            wanted = tuple(sorted(all_of_them, key=lambda drawing: drawing.lines))
            self.assertEqual(outer_drawings(web), wanted)
            many = 0 if outer_ring(web) is None else 1 if len(web.ties) == len(web) else 2
            self.assertEqual(len(wanted), many)
            # [0.22]: a block has such a drawing exactly if there is no reason against it.
            self.is_bool(reason_against(web) is None, many > 0)
        self.assertEqual([outer_drawings(FOUR), outer_drawings(FORTY), len(outer_drawings(ring_web(TWELVE)))],
                         [(), (), 1])

    def test_no_outer_drawings(self):
        for value in not_drawings():
            self.is_bool(is_outer_drawing(value), False)
            self.refuses(InvalidDrawing, inner_tree, value)
        for drawing in [flat, any_drawing(WHEEL), any_drawing(BOW), any_drawing(TWO), any_drawing(ONE)]:
            self.is_bool(is_outer_drawing(drawing), False)
            self.refuses(InvalidDrawing, inner_tree, drawing)

    def test_inner_trees(self):
        for web in BLOCKS + list(each_full(TWELVE[:6])):
            for drawing in outer_drawings(web):
                if len(web.ties) == len(web):
                    self.refuses(InvalidOperation, inner_tree, drawing)
                    continue
                inner, links = inner_tree(drawing)
                self.assertEqual(inner, tuple(rim for rim in drawing if len(rim) < len(web)))
                pairs = [{tuple(sorted((rim[k - 1], rim[k]))) for k in range(len(rim))} for rim in inner]
                wanted = [(i, j) for i, j in itertools.combinations(range(len(inner)), 2) if pairs[i] & pairs[j]]
                self.assertEqual(links, tuple(wanted))
                self.assertEqual(len(links), len(web.ties) - len(web))
                self.assertEqual(len(links), len(inner) - 1)


class Full(Case):

    def test_full(self):
        for web in BLOCKS:
            if len(web) > 6:
                continue
            rings = slow_outer_rings(web)
            self.is_bool(is_full(web), bool(rings) and len(web.ties) == 2 * len(web) - 3)
            if not rings:
                self.refuses(InvalidOperation, filled_web, web)
                continue
            filled = filled_web(web)
            self.is_bool(is_full(filled), True)
            self.assertEqual((filled.places, outer_ring(filled)), (web.places, rings[0]))
            self.assertTrue(set(web.ties) <= set(filled.ties))
            for a, b in itertools.combinations(web.places, 2):
                if is_full(web) and not web.is_tied(a, b):
                    self.is_bool(is_outer_web(web.with_tie(a, b)), False)
        self.assertEqual(filled_web(KITE), KITE)
        self.assertEqual(len(filled_web(ring_web(TWELVE)).ties), 21)

    def test_count_and_each(self):
        for ring in PLAIN_RINGS:
            webs = list(each_full(ring))
            self.assertEqual(webs, slow_full(ring))
            self.assertEqual(count_full(ring), len(webs))
            for web in webs:
                self.assertEqual(outer_ring(web), ring)
                self.is_bool(is_full(web), True)
        self.assertEqual([count_full(TWELVE[:many]) for many in range(3, 13)],
                         [1, 2, 5, 14, 42, 132, 429, 1430, 4862, 16796])

    def test_full_webs_of_twelve_places(self):
        names = list(TWELVE)
        random.Random(3).shuffle(names)
        last = ()
        many = 0
        for web in each_full(plain_ring(tuple(names))):
            self.assertLess(last, web.ties)
            last = web.ties
            many += 1
        self.assertEqual(many, 16796)

    def test_one_by_one(self):
        webs = each_full(TWELVE)
        first = next(webs)
        self.assertEqual(first.neighbours("a"), TWELVE[1:])
        self.assertLess(first.ties, next(webs).ties)

    def test_refuses(self):
        for wrong in [("a", "c", "b"), ("b", "a", "c"), ("a", "b"), ("a", "b", "a"), TWELVE + ("m",),
                      ["a", "b", "c"], "abc", ("a", "b", 3), *WRONG, *OBJECTS]:
            self.refuses(InvalidRoute, count_full, wrong)
            self.refuses(InvalidRoute, lambda: next(each_full(wrong)))
            each_full(wrong)


class Choices(Case):

    def test_choices(self):
        chance = random.Random(4)
        none = 0
        for web in [web for web in SAMPLES if len(web) <= 6]:
            for many in (1, 2, 3):
                lists = {place: tuple(sorted(chance.sample(range(many + 1), chance.randint(1, many))))
                         for place in web.places}
                wanted = list(choices(web, lists))
                chosen = outer_choice(web, lists)
                none += chosen is None
                self.is_bool(chosen is None, not wanted)
                if chosen is not None:
                    self.assertIn(chosen, wanted)
                    self.assertEqual(list(chosen), list(web.places))
                for row in itertools.product(*[lists[place] for place in web.places]):
                    value = dict(zip(reversed(web.places), reversed(row)))
                    self.is_bool(is_outer_choice(web, lists, value), value in wanted)
        self.assertGreater(none, 10)

    def test_lists_of_three_numbers(self):
        chance = random.Random(5)
        for ring in PLAIN_RINGS:
            for web in list(each_full(ring))[:10]:
                lists = {place: tuple(sorted(chance.sample(range(5), 3))) for place in web.places}
                self.is_bool(is_outer_choice(web, lists, outer_choice(web, lists)), True)

    def test_order_of_lists(self):
        # Lists are the same in whatever order they are told, so the choice is the same, too.
        chance = random.Random(6)
        for web in [web for web in SAMPLES if len(web) <= 6]:
            lists = {place: tuple(sorted(chance.sample(range(4), 3))) for place in web.places}
            for names in (web.places[::-1], chance.sample(web.places, len(web))):
                self.assertEqual(outer_choice(web, {place: lists[place] for place in names}), outer_choice(web, lists))

    def test_no_choice_of_many(self):
        # Nine places all tied, and only eight numbers.
        web = every_full(9)
        lists = {place: tuple(sorted({k % 8, (k + 1) % 8, (k + 2) % 8, (k + 4) % 8, (k + 5) % 8}))
                 for k, place in enumerate(web.places)}
        self.assertEqual(outer_choice(web, lists), None)
        lists["a"] = (8,)
        self.is_bool(is_outer_choice(web, lists, outer_choice(web, lists)), True)
        self.is_bool(is_outer_choice(FORTY, {x: (0, 1, 2, 3, 4) for x in TWELVE}, None), False)
        self.assertEqual(outer_choice(ONE, {"a": ()}), None)
        self.assertEqual(outer_choice(ONE, {"a": (10 ** 60 - 1,)}), {"a": 10 ** 60 - 1})

    def test_wrong_lists(self):
        good = {"a": (0, 1), "b": (1,)}
        for wrong in [{}, {"a": (0,)}, {**good, "c": (1,)}, {**good, 1: (1,)}, {**good, "a": [0, 1]},
                      {**good, "a": (1, 0)}, {**good, "a": (1, 1)}, {**good, "a": (-1, 0)}, {**good, "a": (True,)},
                      {**good, "a": (False, 1)}, {**good, "a": (0, 1, 2, 3, 4, 5)}, {**good, "a": (10 ** 60,)},
                      {**good, "a": ("0",)}, {**good, "a": 0}, {**good, "a": None}, {**good, "b": {1: 1}},
                      ((0, 1), (1,)), [(0,), (1,)], *WRONG, *OBJECTS]:
            self.refuses(InvalidColours, outer_choice, TWO, wrong)
            self.refuses(InvalidColours, is_outer_choice, TWO, wrong, {"a": 0, "b": 1})
        self.assertEqual(outer_choice(TWO, {"a": (0, 1, 2, 3, 4), "b": (0,)})["b"], 0)

    def test_wrong_choices(self):
        lists = {"a": (0, 1), "b": (1, 2)}
        self.is_bool(is_outer_choice(TWO, lists, {"b": 1, "a": 0}), True)
        for wrong in [{"a": 0}, {"a": 0, "b": 1, "c": 2}, {"a": 0, "b": True}, {"a": False, "b": 1},
                      {"a": 1, "b": 1}, {"a": 2, "b": 1}, {"a": 0, "b": 3}, {"a": 0, "b": None}, {"a": 0, "b": (1,)},
                      {"a": 0, "b": "1"}, {"a": 0, "b": [1]}, (0, 1), [0, 1], *WRONG, *OBJECTS]:
            self.is_bool(is_outer_choice(TWO, lists, wrong), False)

    def test_arguments_stay(self):
        lists = {"b": (1, 2), "a": (0, 1)}
        outer_choice(TWO, lists)
        self.assertEqual((lists, list(lists)), ({"b": (1, 2), "a": (0, 1)}, ["b", "a"]))


class Statements(Case):

    def test_no_drawing_with_all_places_but_one(self):
        # [0.23]: a block with a drawing need not have one in which one rim has all places but one.
        best = 0
        for table in all_tables(GLUED):
            try:
                best = max(best, max(len(rim) for rim in Drawing(GLUED, table)))
            except InvalidDrawing:
                continue
        self.assertEqual(best, 4)
        self.is_bool(any(len(ring) == 6 for ring in each_ring(GLUED)), True)
