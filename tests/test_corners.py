"""[13.7] to [13.9], [0.19]: corners and grids."""

import itertools
import math
import random
from fractions import Fraction

from flatwebs.base.drawings import Drawing
from flatwebs.base.webs import Web, full_web, ring_web
from flatwebs.draw.bars import drawing_of
from flatwebs.errors import InvalidCorners, InvalidDrawing, InvalidOperation, InvalidRim, InvalidTrees, InvalidWeb
from flatwebs.grid.corners import corners, drawing_by_grid, is_grid
from flatwebs.grid.trees import each_three_trees, least_trees, three_trees, turnable, turned_ring, ways_of
from tests.samples import (
    APART, BOW, FOUR, KITE, OBJECTS, OCTA, ONE, SIX, THREE, TWENTY, TWO, WHEEL, WRONG, Case, bent, flat, not_drawings,
    not_webs, triangulated)
from tests.test_trees import runs_left, slow_corners

OUTER = ("a", "b", "c")
SQUARE = {"a": (0, 0), "b": (4, 0), "c": (0, 4), "d": (4, 4)}
TRIANGLE = Drawing.from_rims(("a", "b", "c"), ("a", "c", "b"))
DRAWINGS = [TRIANGLE, flat, flat.mirror, SIX, drawing_of(OCTA), TWENTY,
            *[triangulated(many, seed) for many in range(5, 13) for seed in range(3)]]


def common_points(one, other):
    """How many points two straight ties have in common: 0, 1, or 2 for more; and any of them."""
    (a, b), (c, d) = [tuple(map(Fraction, end)) for end in one]
    (e, f), (g, h) = [tuple(map(Fraction, end)) for end in other]
    x, y, v, w = c - a, d - b, g - e, h - f
    turn = x * w - y * v
    if turn:
        t = ((e - a) * w - (f - b) * v) / turn
        s = ((e - a) * y - (f - b) * x) / turn
        return (1, (a + t * x, b + t * y)) if 0 <= t <= 1 and 0 <= s <= 1 else (0, None)
    if (e - a) * y != (f - b) * x:
        return (0, None)
    first, last = max(min((a, b), (c, d)), min((e, f), (g, h))), min(max((a, b), (c, d)), max((e, f), (g, h)))
    return (0, None) if first > last else (1, first) if first == last else (2, first)


def slow_is_clear(web, spots, places):
    """Whether the straight ties, and the places told, meet at common ends only."""
    if len(set(spots.values())) < len(spots):
        return False
    for place in places:
        for a, b in web.ties:
            if place not in (a, b) and common_points((spots[a], spots[b]), (spots[place],) * 2)[0]:
                return False
    for one, other in itertools.combinations(web.ties, 2):
        many, point = common_points([spots[end] for end in one], [spots[end] for end in other])
        ends = [spots[end] for end in one if end in other]
        if many > 1 or many == 1 and point not in ends:
            return False
    return True


def slow_is_grid(web, value):
    if type(value) is not dict or set(value) != set(web.places):
        return False
    for spot in value.values():
        if type(spot) is not tuple or len(spot) != 2 or any(type(n) is not int or abs(n) >= 10 ** 60 for n in spot):
            return False
    return slow_is_clear(web, value, web.places)


def slow_shown(web, spots):
    """The table of straight ties, by angles."""
    table = {}
    for place in web.places:
        x, y = spots[place]
        row = sorted(web.neighbours(place), key=lambda one: math.atan2(spots[one][1] - y, spots[one][0] - x))
        at = row.index(min(row)) if row else 0
        table[place] = tuple(row[at:] + row[:at])
    return table


class Examples(Case):

    def test_examples(self):
        trees = three_trees(flat, OUTER)
        self.assertEqual(
            [trees, corners(flat, OUTER, trees), ways_of(flat, OUTER, trees, "d"), turnable(flat, OUTER, trees),
             len(list(each_three_trees(flat, OUTER)))],
            [{"d": ("a", "b", "c")}, {"a": (3, 0), "b": (0, 3), "c": (0, 0), "d": (1, 1)},
             (("d", "a"), ("d", "b"), ("d", "c")), (), 1])
        self.is_bool(drawing_by_grid(FOUR, corners(flat, OUTER, trees)) == flat, True)
        self.assertEqual(
            [is_grid(KITE, SQUARE), is_grid(KITE, {"a": (0, 0), "b": (4, 0), "c": (0, 4), "d": (2, 2)}),
             drawing_by_grid(KITE, SQUARE).table["b"]],
            [True, False, ("a", "d", "c")])
        low = least_trees(SIX, OUTER)
        self.assertEqual(
            [len(list(each_three_trees(SIX, OUTER))), low, turnable(SIX, OUTER, low), corners(SIX, OUTER, low)["d"],
             turned_ring(SIX, OUTER, low, ("d", "e", "f"))["d"]],
            [2, {"d": ("a", "b", "e"), "e": ("a", "f", "c"), "f": ("d", "b", "c")}, (("d", "e", "f"),), (4, 2),
             ("a", "b", "f")])


class Corners(Case):

    def test_corners_and_back(self):
        for drawing in DRAWINGS:
            many = 2 * len(drawing.web) - 5
            for rim in drawing.rims[::1 if len(drawing.web) < 8 else 5]:
                for trees in itertools.islice(each_three_trees(drawing, rim), 4):
                    found = corners(drawing, rim, trees)
                    self.assertEqual(list(found), list(drawing.web.places))
                    self.assertEqual(found, slow_corners(drawing, rim, trees))
                    self.assertEqual([found[root] for root in rim], [(many, 0), (0, many), (0, 0)])
                    self.assertTrue(all(x > 0 and y > 0 and x + y < many for x, y in [found[p] for p in trees]))
                    self.assertTrue(slow_is_grid(drawing.web, found))
                    self.is_bool(is_grid(drawing.web, found), True)
                    self.assertEqual(drawing_by_grid(drawing.web, found), drawing)
                    self.assertEqual(corners(drawing, rim, dict(reversed(trees.items()))), found)
                    turned = {place: (y, x) for place, (x, y) in found.items()}
                    self.assertEqual(drawing_by_grid(drawing.web, turned), drawing.mirror)

    def test_no_inner_places(self):
        for rim in TRIANGLE.rims:
            self.assertEqual(corners(TRIANGLE, rim, {}), dict(zip(rim, ((1, 0), (0, 1), (0, 0)))))

    def test_least_trees_by_corners(self):
        for drawing in DRAWINGS:
            rim = drawing.rims[-1]
            low = least_trees(drawing, rim)
            for trees in itertools.islice(each_three_trees(drawing, rim), 30):
                found = corners(drawing, rim, trees)
                left = [ring for ring in turnable(drawing, rim, trees) if runs_left(found, ring)]
                self.is_bool(left == [], trees == low)


class Grids(Case):

    def test_grids_by_chance(self):
        chance = random.Random(91)
        webs = [TWO, ONE, KITE, FOUR, APART, THREE, WHEEL, BOW, full_web(("a", "b", "c")), Web(("a", "b"), ()),
                Web.of_ties(("a", "b"), ("b", "c")), Web(("a", "b", "c"), (("a", "b"),)), ring_web(tuple("acbd"))]
        counts = {True: 0, False: 0}
        for web in webs * 250:
            reach = chance.choice((2, 3, 5, 9))
            grid = {place: (chance.randint(-reach, reach), chance.randint(-reach, reach)) for place in web.places}
            right = slow_is_grid(web, grid)
            self.is_bool(is_grid(web, grid), right)
            counts[right] += 1
            if right and web.hangs:
                names = list(grid)
                chance.shuffle(names)
                shuffled = {name: grid[name] for name in names}
                drawing = drawing_by_grid(web, shuffled)
                self.assertEqual(drawing.table, slow_shown(web, grid))
                self.assertEqual(Drawing(web, drawing.table), drawing)
                self.assertEqual(drawing_by_grid(web, {p: (-y, x) for p, (x, y) in grid.items()}), drawing)
                self.assertEqual(drawing_by_grid(web, {p: (-x, y) for p, (x, y) in grid.items()}), drawing.mirror)
            elif right:
                self.refuses(InvalidOperation, drawing_by_grid, web, grid)
            else:
                self.refuses(InvalidCorners, drawing_by_grid, web, grid)
        self.assertGreater(min(counts.values()), 500)

    def test_all_rounds(self):
        # A hub with spokes in all directions, also straight to the right, to the left, up and down.
        spots = [(x, y) for x in range(-2, 3) for y in range(-2, 3) if math.gcd(x, y) == 1]
        chance = random.Random(92)
        for many in range(1, 12):
            for _ in range(20):
                names = "bcdefghijkl"[:many]
                web = Web.of_ties(*[("a", name) for name in names])
                grid = {"a": (0, 0), **dict(zip(names, chance.sample(spots, many)))}
                self.assertEqual(drawing_by_grid(web, grid).table, slow_shown(web, grid))

    def test_edges(self):
        line = Web.of_ties(("a", "b"), ("b", "c"))
        for web, grid, right in [
                (ONE, {"a": (0, 0)}, True), (ONE, {"a": (10 ** 60 - 1, 1 - 10 ** 60)}, True),
                (ONE, {"a": (10 ** 60, 0)}, False), (ONE, {"a": (0, -10 ** 60)}, False),
                (TWO, {"a": (0, 0), "b": (0, 0)}, False), (TWO, {"a": (0, 0), "b": (0, 1)}, True),
                # Three places on one line, in their order and in another one.
                (line, {"a": (0, 0), "b": (1, 0), "c": (2, 0)}, True),
                (line, {"a": (1, 0), "b": (0, 0), "c": (2, 0)}, False),
                (line, {"a": (-3, 6), "b": (0, 0), "c": (3, -6)}, True),
                (full_web(("a", "b", "c")), {"a": (0, 0), "b": (1, 0), "c": (2, 0)}, False),
                # A place without ties on a straight tie, at its line's end, and beside it.
                (Web(("a", "b", "c"), (("a", "b"),)), {"a": (0, 0), "b": (4, 2), "c": (2, 1)}, False),
                (Web(("a", "b", "c"), (("a", "b"),)), {"a": (0, 0), "b": (4, 2), "c": (6, 3)}, True),
                (Web(("a", "b", "c"), (("a", "b"),)), {"a": (0, 0), "b": (4, 2), "c": (2, 2)}, True),
                (Web(("a", "b", "c"), (("a", "b"),)), {"a": (0, 0), "b": (4, 0), "c": (4, 0)}, False),
                # Two ties that cross, touch, lie on one line, overlap, and lie apart.
                (APART, {"a": (0, 0), "b": (2, 2), "c": (0, 2), "d": (2, 0)}, False),
                (APART, {"a": (0, 0), "b": (2, 0), "c": (1, 0), "d": (1, 5)}, False),
                (APART, {"a": (0, 0), "b": (2, 0), "c": (1, 1), "d": (1, 5)}, True),
                (APART, {"a": (0, 0), "b": (2, 0), "c": (3, 0), "d": (5, 0)}, True),
                (APART, {"a": (0, 0), "b": (3, 0), "c": (2, 0), "d": (5, 0)}, False),
                (APART, {"a": (0, 0), "b": (9, 0), "c": (2, 0), "d": (5, 0)}, False),
                (APART, {"a": (0, 0), "b": (2, 0), "c": (2, 0), "d": (5, 0)}, False),
                (APART, {"a": (0, 0), "b": (2, 1), "c": (0, 1), "d": (2, 2)}, True),
                (KITE, SQUARE, True), (FOUR, SQUARE, False)]:
            self.is_bool(is_grid(web, grid), right)
            self.assertEqual(slow_is_grid(web, grid), right)
        self.assertEqual(drawing_by_grid(ONE, {"a": (0, 0)}).table, {"a": ()})
        great = {"a": (0, 0), "b": (10 ** 60 - 1, 0), "c": (0, 10 ** 60 - 1), "d": (1 - 10 ** 60, 1 - 10 ** 60)}
        self.assertEqual(drawing_by_grid(FOUR, {**great, "a": (0, 0)}).table["a"], ("b", "c", "d"))

    def test_near_grids(self):
        for web, grid in ((KITE, SQUARE), (FOUR, corners(flat, OUTER, three_trees(flat, OUTER))), (TWO, {
                "b": (5, 5), "a": (-1, 0)})):
            for value in bent(grid):
                right = slow_is_grid(web, value)
                self.is_bool(is_grid(web, value), right)
                if not right:
                    self.refuses(InvalidCorners, drawing_by_grid, web, value)

    def test_wrong_grids(self):
        for value in [*WRONG, *OBJECTS, {"a": [0, 0]}, {"a": (0, True)}, {"a": (0,)}, {"a": (0, 0, 0)}, {"a": 0},
                      {"a": (0, None)}, {"a": ("0", "0")}, {"b": (0, 0)}, {"a": (0, 0), "b": (1, 1)}, [("a", (0, 0))],
                      {"a": ((0, 1), (0, 1))}]:
            self.is_bool(is_grid(ONE, value), False)
            self.refuses(InvalidCorners, drawing_by_grid, ONE, value)
            # What is no grid is told ahead of a web that falls apart.
            self.refuses(InvalidCorners, drawing_by_grid, APART, value)
        for value in not_webs():
            self.refuses(InvalidWeb, is_grid, value, None)
            self.refuses(InvalidWeb, drawing_by_grid, value, None)
        self.refuses(InvalidOperation, drawing_by_grid, APART, {"a": (0, 0), "b": (1, 0), "c": (0, 1), "d": (1, 1)})


class Wrong(Case):

    def test_wrong_drawings_rims_and_trees(self):
        for value in not_drawings():
            self.refuses(InvalidDrawing, corners, value, None, None)
        for web in (ONE, TWO, KITE, WHEEL, BOW):
            self.refuses(InvalidOperation, corners, drawing_of(web), None, None)
        for rim in [("b", "c", "a"), ("a", "c", "b"), *WRONG, *OBJECTS]:
            self.refuses(InvalidRim, corners, flat, rim, None)
        for value in [*WRONG, *OBJECTS, {"d": ("b", "c", "a")}, {"d": ("a", "b")}, {"d": ["a", "b", "c"]}]:
            self.refuses(InvalidTrees, corners, flat, OUTER, value)
