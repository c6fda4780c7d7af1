"""[13.1] to [13.6], [0.19]: three trees."""

import itertools

from flatwebs.base.drawings import Drawing
from flatwebs.base.webs import Web
from flatwebs.draw.bars import drawing_of
from flatwebs.errors import InvalidDrawing, InvalidOperation, InvalidRim, InvalidTrees, ParseError, UnknownName
from flatwebs.grid.trees import (
    each_three_trees, is_pointing, is_three_trees, least_trees, pointing_of, read_trees, three_trees, trees_by,
    turnable, turned_ring, way_to_least, ways_of, write_trees)
from tests.samples import (
    BOW, FOUR, KITE, OBJECTS, OCTA, ONE, SIX, TWENTY, TWO, WHEEL, WRONG, Case, bent, flat, not_drawings, triangulated)

OUTER = ("a", "b", "c")
TRIANGLE = Drawing.from_rims(("a", "b", "c"), ("a", "c", "b"))
SMALL = [TRIANGLE, flat, flat.mirror, SIX, SIX.mirror, drawing_of(OCTA),
         *[triangulated(many, seed) for many in (5, 6, 7) for seed in range(4)]]
GREAT = [TWENTY, *[triangulated(many, seed) for many in (8, 9, 10, 11, 12) for seed in range(2)]]
# A ring of three with other places within it, which can be turned.
NEST = Drawing.from_rims(*[rim for rim in SIX.rims if rim != ("d", "e", "f")],
                         ("d", "e", "x"), ("e", "f", "x"), ("d", "x", "f"))


def inner_places(drawing, rim):
    return tuple(place for place in drawing.web.places if place not in rim)


def inner_ties(drawing, rim):
    return [tie for tie in drawing.web.ties if not set(tie) <= set(rim)]


def slow_is_trees(drawing, rim, value):
    """[13.1], as it is told."""
    places = inner_places(drawing, rim)
    if type(value) is not dict or set(value) != set(places):
        return False
    for place in places:
        row = value[place]
        if type(row) is not tuple or len(row) != 3 or not all(
                type(one) is str and one in drawing.web.neighbours(place) for one in row) or len(set(row)) < 3:
            return False
    for a, b in inner_ties(drawing, rim):
        if value.get(a, ()).count(b) + value.get(b, ()).count(a) != 1:
            return False
    for place in places:
        near = drawing.round_at(place)
        at = near.index(value[place][0])
        seen = []
        for one in near[at:] + near[:at]:
            if one in value[place]:
                seen.append(f"p{value[place].index(one)}")
            else:
                seen.append(f"in{value[one].index(place)}")
        wanted = ["p0"] + ["in2"] * seen.count("in2") + ["p1"] + ["in0"] * seen.count("in0") + ["p2"] + [
            "in1"] * seen.count("in1")
        if seen != wanted:
            return False
    return all(one not in rim or rim.index(one) == k for row in value.values() for k, one in enumerate(row))


def slow_is_pointing(drawing, rim, value):
    """[13.2], as it is told."""
    places = inner_places(drawing, rim)
    if type(value) is not dict or set(value) != set(places):
        return False
    for place in places:
        row = value[place]
        if type(row) is not tuple or len(row) != 3 or not all(
                type(one) is str and one in drawing.web.neighbours(place) for one in row) or not row[0] < row[1] < row[2]:
            return False
    return all(value.get(a, ()).count(b) + value.get(b, ()).count(a) == 1 for a, b in inner_ties(drawing, rim))


def all_pointings(drawing, rim):
    """All pointings, by trying both directions of each inner tie."""
    ties = inner_ties(drawing, rim)
    places = inner_places(drawing, rim)
    for sides in itertools.product((0, 1), repeat=len(ties)):
        told = {place: () for place in places}
        for (a, b), side in zip(ties, sides):
            one, other = (a, b) if side else (b, a)
            if one in told:
                told[one] += (other,)
        if all(len(row) == 3 for row in told.values()):
            yield {place: tuple(sorted(told[place])) for place in places}


def all_trees(drawing, rim):
    """All three trees, by trying all orders of the triples of all pointings."""
    places = inner_places(drawing, rim)
    for pointing in all_pointings(drawing, rim):
        for rows in itertools.product(*[itertools.permutations(pointing[place]) for place in places]):
            trees = dict(zip(places, rows))
            if slow_is_trees(drawing, rim, trees):
                yield trees


def slow_way(trees, place, k):
    return (place,) if place not in trees else (place, *slow_way(trees, trees[place][k], k))


def slow_region(drawing, rim, trees, place, k):
    """The number of the rims between two ways and the tie of their roots, by going from rim to rim."""
    one, other = [slow_way(trees, place, m) for m in range(3) if m != k]
    fence = {tuple(sorted(pair)) for way in (one, other, (one[-1], other[-1])) for pair in zip(way, way[1:])}
    a, b = sorted((one[-1], other[-1]))
    found = [found for found in (drawing.rim_along(a, b), drawing.rim_along(b, a)) if found != rim]
    for here in found:
        for p, q in zip(here, here[1:] + here[:1]):
            there = drawing.rim_along(q, p)
            if tuple(sorted((p, q))) not in fence and there not in found:
                found.append(there)
    return len(found)


def slow_corners(drawing, rim, trees):
    """[13.7]."""
    many = 2 * len(drawing.web) - 5
    corners = dict(zip(rim, ((many, 0), (0, many), (0, 0))))
    for place in trees:
        corners[place] = tuple(slow_region(drawing, rim, trees, place, k) for k in range(2))
    return corners


def runs_left(corners, ring):
    """[13.5]: whether the corners of a ring run counterclockwise."""
    (a, b), (c, d), (e, f) = [corners[place] for place in ring]
    return (c - a) * (f - b) > (e - a) * (d - b)


def slow_turnable(trees):
    steps = {(place, one) for place, row in trees.items() for one in row}
    return tuple(sorted((x, y, z) for x, y in steps for z in trees if (y, z) in steps and (z, x) in steps and x < min(y, z)))


def slow_turned(trees, ring):
    """The pointing behind a turn."""
    steps = {(place, one) for place, row in trees.items() for one in row}
    gone = set(zip(ring, ring[1:] + ring[:1]))
    steps = (steps - gone) | {(b, a) for a, b in gone}
    return {place: tuple(sorted(b for a, b in steps if a == place)) for place in sorted(trees)}


def is_ordered(value):
    return list(value) == sorted(value)


class Examples(Case):

    def test_examples(self):
        trees = three_trees(flat, OUTER)
        self.assertEqual(
            [trees, slow_corners(flat, OUTER, trees), ways_of(flat, OUTER, trees, "d"), turnable(flat, OUTER, trees),
             len(list(each_three_trees(flat, OUTER)))],
            [{"d": ("a", "b", "c")}, {"a": (3, 0), "b": (0, 3), "c": (0, 0), "d": (1, 1)},
             (("d", "a"), ("d", "b"), ("d", "c")), (), 1])
        self.assertEqual(
            [write_trees(trees), read_trees("d a b c") == trees, is_three_trees(flat, OUTER, {"d": ("b", "c", "a")})],
            ["d a b c", True, False])
        low = least_trees(SIX, OUTER)
        self.assertEqual(
            [len(list(each_three_trees(SIX, OUTER))), low, turnable(SIX, OUTER, low),
             slow_corners(SIX, OUTER, low)["d"], turned_ring(SIX, OUTER, low, ("d", "e", "f"))["d"]],
            [2, {"d": ("a", "b", "e"), "e": ("a", "f", "c"), "f": ("d", "b", "c")}, (("d", "e", "f"),), (4, 2),
             ("a", "b", "f")])


class Trees(Case):

    def check(self, drawing, rim, trees):
        self.assertTrue(slow_is_trees(drawing, rim, trees), (drawing.lines, rim, trees))
        self.is_bool(is_three_trees(drawing, rim, trees), True)
        self.is_bool(is_three_trees(drawing, rim, dict(reversed(trees.items()))), True)
        self.assertTrue(is_ordered(trees))
        pointing = pointing_of(drawing, rim, trees)
        self.assertEqual(pointing, {place: tuple(sorted(trees[place])) for place in trees})
        self.assertTrue(is_ordered(pointing))
        self.is_bool(is_pointing(drawing, rim, pointing), True)
        turned = dict(reversed(pointing.items()))
        self.is_bool(is_pointing(drawing, rim, turned), True)
        self.assertEqual(trees_by(drawing, rim, turned), trees)
        self.assertTrue(is_ordered(trees_by(drawing, rim, turned)))
        self.assertTrue(is_ordered(pointing_of(drawing, rim, dict(reversed(trees.items())))))
        self.assertEqual(read_trees(write_trees(trees)), trees)

    def test_any_trees(self):
        for drawing in SMALL + GREAT:
            for rim in drawing.rims:
                trees = three_trees(drawing, rim)
                self.check(drawing, rim, trees)
                self.assertEqual(three_trees(drawing, rim), trees)

    def test_all_trees_by_force(self):
        for drawing in SMALL:
            if len(drawing.web) < 7:
                for rim in drawing.rims:
                    slow = list(all_trees(drawing, rim))
                    found = list(each_three_trees(drawing, rim))
                    self.assertEqual(len(found), len(slow))
                    self.assertTrue(all(trees in slow for trees in found))
                    self.assertTrue(all(found.count(trees) == 1 for trees in found))
                    self.assertTrue(all(is_ordered(trees) for trees in found))

    def test_all_pointings_by_force(self):
        for drawing in [one for one in SMALL if len(one.web) == 7] + [NEST]:
            for rim in drawing.rims[::4]:
                slow = list(all_pointings(drawing, rim))
                found = [pointing_of(drawing, rim, trees) for trees in each_three_trees(drawing, rim)]
                self.assertEqual(sorted(map(str, found)), sorted(map(str, slow)))
                for pointing in slow:
                    self.check(drawing, rim, trees_by(drawing, rim, pointing))
                    self.assertEqual(pointing_of(drawing, rim, trees_by(drawing, rim, pointing)), pointing)

    def test_all_trees_of_great_drawings(self):
        for drawing in GREAT:
            for rim in drawing.rims[::5]:
                found = list(each_three_trees(drawing, rim))
                keys = {write_trees(trees) for trees in found}
                self.assertEqual(len(keys), len(found))
                self.assertIn(write_trees(three_trees(drawing, rim)), keys)
                for trees in found[:20]:
                    self.check(drawing, rim, trees)
                    # From these no turn leads to others.
                    for ring in turnable(drawing, rim, trees):
                        self.assertIn(write_trees(turned_ring(drawing, rim, trees, ring)), keys)
        self.assertGreater(max(len(list(each_three_trees(TWENTY, rim))) for rim in TWENTY.rims[:2]), 20)

    def test_one_by_one(self):
        first = list(itertools.islice(each_three_trees(TWENTY, TWENTY.rims[0]), 2))
        self.assertNotEqual(first[0], first[1])
        asked = each_three_trees(flat, OUTER)
        self.assertEqual(next(asked), {"d": ("a", "b", "c")})
        self.assertRaises(StopIteration, next, asked)

    def test_ways(self):
        for drawing in SMALL + GREAT:
            for rim in drawing.rims[::3]:
                for trees in (three_trees(drawing, rim), least_trees(drawing, rim)):
                    for place in trees:
                        ways = ways_of(drawing, rim, trees, place)
                        self.assertEqual(ways, tuple(slow_way(trees, place, k) for k in range(3)))
                        self.assertEqual(tuple(way[-1] for way in ways), rim)
                        for one, other in itertools.combinations(ways, 2):
                            self.assertEqual(set(one) & set(other), {place})

    def test_no_inner_places(self):
        for rim in TRIANGLE.rims:
            self.assertEqual([three_trees(TRIANGLE, rim), least_trees(TRIANGLE, rim), pointing_of(TRIANGLE, rim, {}),
                              trees_by(TRIANGLE, rim, {}), turnable(TRIANGLE, rim, {}), way_to_least(TRIANGLE, rim, {}),
                              list(each_three_trees(TRIANGLE, rim))], [{}, {}, {}, {}, (), (), [{}]])
            self.is_bool(is_three_trees(TRIANGLE, rim, {}), True)
            self.is_bool(is_pointing(TRIANGLE, rim, {}), True)
            self.is_bool(is_three_trees(TRIANGLE, rim, {"d": ("a", "b", "c")}), False)
            self.is_bool(is_three_trees(flat, OUTER, {}), False)
            self.is_bool(is_pointing(flat, OUTER, {}), False)
            for place in "abcd":
                self.refuses(UnknownName, ways_of, TRIANGLE, rim, {}, place, word=place)

    def test_near_trees(self):
        for drawing, rim in ((flat, OUTER), (SIX, OUTER), (NEST, OUTER), (SIX, ("d", "e", "f")), (TRIANGLE, OUTER)):
            for trees in each_three_trees(drawing, rim):
                for value in [*bent(trees), *[dict(zip(trees, rows)) for rows in itertools.islice(itertools.product(
                        *[itertools.permutations(row) for row in trees.values()]), 216)]]:
                    self.is_bool(is_three_trees(drawing, rim, value), slow_is_trees(drawing, rim, value))
                for value in bent(pointing_of(drawing, rim, trees)):
                    self.is_bool(is_pointing(drawing, rim, value), slow_is_pointing(drawing, rim, value))
                for other in drawing.rims:
                    self.is_bool(is_three_trees(drawing, other, trees), slow_is_trees(drawing, other, trees))
        # All of a pointing but the order within a triple.
        self.is_bool(is_pointing(flat, OUTER, {"d": ("b", "a", "c")}), False)
        self.is_bool(is_pointing(flat, OUTER, {"d": ("a", "b", "b")}), False)
        self.is_bool(is_pointing(flat, OUTER, {"d": ("a", "b")}), False)
        self.is_bool(is_pointing(SIX, OUTER, {"d": ("a", "b", "c"), "e": ("a", "c", "f"), "f": ("b", "c", "d")}), False)

    def test_tries_at_trees(self):
        # All triples of neighbours for all three inner places.
        for rim in (OUTER, ("d", "e", "f"), ("a", "c", "e")):
            places = inner_places(SIX, rim)
            rows = [[row for row in itertools.permutations(SIX.web.neighbours(place), 3)] for place in places]
            for choice in list(itertools.product(*rows))[::11]:
                trees = dict(zip(places, choice))
                self.is_bool(is_three_trees(SIX, rim, trees), slow_is_trees(SIX, rim, trees))


class Turns(Case):

    def test_turnable_rings(self):
        for drawing in SMALL + [NEST] + GREAT[:5]:
            for rim in drawing.rims[::2 if len(drawing.web) < 8 else 6]:
                for trees in itertools.islice(each_three_trees(drawing, rim), 8):
                    rings = turnable(drawing, rim, trees)
                    self.assertEqual(rings, slow_turnable(trees))
                    for ring in rings:
                        other = turned_ring(drawing, rim, trees, ring)
                        self.assertTrue(slow_is_trees(drawing, rim, other))
                        self.assertTrue(is_ordered(other))
                        self.assertEqual(pointing_of(drawing, rim, other), slow_turned(trees, ring))
                        back = (ring[0], ring[2], ring[1])
                        self.assertIn(back, turnable(drawing, rim, other))
                        self.assertEqual(turned_ring(drawing, rim, other, back), trees)

    def test_ring_with_places_inside(self):
        # The ties of the place inside are pointed along as before, but in other trees.
        one, other = [trees for trees in each_three_trees(NEST, OUTER)]
        ring = turnable(NEST, OUTER, one)[0]
        self.assertEqual(turned_ring(NEST, OUTER, one, ring), other)
        self.assertEqual(sorted(one["x"]), sorted(other["x"]))
        self.assertNotEqual(one["x"], other["x"])

    def test_least_trees(self):
        for drawing in SMALL + [NEST] + GREAT:
            for rim in drawing.rims[::1 if len(drawing.web) < 7 else 7]:
                low = least_trees(drawing, rim)
                self.assertTrue(slow_is_trees(drawing, rim, low))
                self.assertEqual(least_trees(drawing, rim), low)
                self.assertTrue(is_ordered(low))
                self.assertEqual(way_to_least(drawing, rim, low), ())
                for k, trees in enumerate(itertools.islice(each_three_trees(drawing, rim), 60)):
                    corners = slow_corners(drawing, rim, trees)
                    left = [ring for ring in slow_turnable(trees) if runs_left(corners, ring)]
                    self.is_bool(trees == low, not left)
                    if k < 20:
                        for ring in way_to_least(drawing, rim, trees):
                            trees = turned_ring(drawing, rim, trees, ring)
                        self.assertEqual(trees, low)

    def test_ways_to_least_are_tuples(self):
        for trees in each_three_trees(TWENTY, TWENTY.rims[3]):
            way = way_to_least(TWENTY, TWENTY.rims[3], trees)
            self.assertIs(type(way), tuple)
            self.assertTrue(all(type(ring) is tuple and len(ring) == 3 and ring[0] == min(ring) for ring in way))

    def test_wrong_rings(self):
        low = least_trees(SIX, OUTER)
        for ring in [("e", "f", "d"), ("f", "d", "e"), ("d", "f", "e"), ("a", "b", "c"), ("d", "e"), ["d", "e", "f"],
                     ("a", "d", "e"), *WRONG, *OBJECTS]:
            self.refuses(InvalidTrees, turned_ring, SIX, OUTER, low, ring)
        high = turned_ring(SIX, OUTER, low, ("d", "e", "f"))
        self.refuses(InvalidTrees, turned_ring, SIX, OUTER, high, ("d", "e", "f"))
        self.assertEqual(turned_ring(SIX, OUTER, high, ("d", "f", "e")), low)
        self.assertEqual(way_to_least(SIX, OUTER, high), (("d", "f", "e"),))


class Texts(Case):

    def test_texts(self):
        self.assertEqual([write_trees({}), read_trees("")], ["", {}])
        trees = {"z": ("a", "b", "c"), "d": ("x", "b", "a")}
        self.assertEqual(write_trees(trees), "d x b a\nz a b c")
        self.assertEqual(list(read_trees("d x b a\nz a b c").items()), [("d", ("x", "b", "a")), ("z", ("a", "b", "c"))])
        self.assertEqual(list(trees), ["z", "d"])
        self.assertEqual(write_trees({"da": ("a", "b", "c"), "d": ("a", "b", "c"), "ab": ("x", "y", "z")}),
                         "ab x y z\nd a b c\nda a b c")
        # It need not be three trees of any drawing, and there can be many rows.
        many = {f"{a}{b}": (a, b, "zzz") for a in "abcdefgh" for b in "ijklmnop"}
        self.assertEqual(read_trees(write_trees(many)), many)

    def test_wrong_texts(self):
        for value in [*WRONG, *OBJECTS, b"d a b c", ["d a b c"]]:
            if type(value) is str:
                if value:
                    self.refuses(ParseError, read_trees, value, number=0)
            else:
                self.refuses(ParseError, read_trees, value, number=None)
        for line in ("", " ", "d", "d a b", "d a b c e", "d a b b", "d a b d", "D a b c", "d a b c ", " d a b c",
                     "d  a b c", "d a b c1", "d,a,b,c", "d a b abcdefghi", "d\ta b c"):
            if line:
                self.refuses(ParseError, read_trees, line, number=0)
            self.refuses(ParseError, read_trees, f"a x y z\n{line}", number=1)
            self.refuses(ParseError, read_trees, f"a x y z\nb x y z\n{line}\n?", number=2)
        for text, number in (("d a b c\nd a b c", 1), ("d a b c\nd x y z", 1), ("d a b c\nc a b d", 1), ("\n", 0),
                             ("d a b c\n", 1), ("\nd a b c", 0), ("b x y z\nc x y z\na x y z\na x", 2),
                             ("da x y z\nd x y z", 1), ("b x y z\na x y", 1)):
            self.refuses(ParseError, read_trees, text, number=number)

    def test_wrong_trees_to_write(self):
        for value in [*WRONG, *OBJECTS, {"d": ["a", "b", "c"]}, {"d": ("a", "b")}, {"d": ("a", "b", "c", "e")},
                      {"d": ("a", "b", "d")}, {"d": ("a", "b", "b")}, {"D": ("a", "b", "c")}, {"d": "abc"},
                      {1: ("a", "b", "c")}, {"d": ("a", "b", 1)}, {"d": ("a", "b", "c"), "e": ()}, {"d": None},
                      {("d",): ("a", "b", "c")}, {None: ("a", "b", "c")}, {"d": (("a",), "b", "c")}]:
            if value != {}:
                self.refuses(InvalidTrees, write_trees, value)


class Wrong(Case):

    def calls(self):
        """The functions that ask for a drawing and a rim, and those that then ask for three trees."""
        ahead = [three_trees, least_trees, lambda *told: is_three_trees(*told, None),
                 lambda *told: is_pointing(*told, None), lambda *told: next(each_three_trees(*told)),
                 lambda *told: trees_by(*told, None)]
        return ahead + [lambda *told, call=call: call(*told, None) for call in self.tree_calls()]

    def tree_calls(self):
        return [pointing_of, lambda *told: ways_of(*told, None), turnable, lambda *told: turned_ring(*told, None),
                way_to_least]

    def test_wrong_drawings(self):
        for value in not_drawings():
            for call in self.calls():
                self.refuses(InvalidDrawing, call, value, None)
            each_three_trees(value, None)

    def test_not_triangulated(self):
        for web in (ONE, TWO, KITE, WHEEL, BOW, Web.of_ties(("a", "b"), ("b", "c"))):
            drawing = drawing_of(web)
            for rim in (None, drawing.rims[0]):
                for call in self.calls():
                    self.refuses(InvalidOperation, call, drawing, rim)
                each_three_trees(drawing, rim)

    def test_wrong_rims(self):
        for rim in [("b", "c", "a"), ("a", "c", "b"), ("a", "d", "e"), ["a", "b", "c"], ("a", "b"), *WRONG, *OBJECTS]:
            for call in self.calls():
                self.refuses(InvalidRim, call, flat, rim)
            each_three_trees(flat, rim)

    def test_wrong_trees(self):
        for value in [*WRONG, *OBJECTS, {"d": ["a", "b", "c"]}, {"d": ("b", "c", "a")}, {"d": ("a", "c", "b")},
                      {"d": ("a", "b")}, {"d": ("a", "b", "c", "d")}, {"d": ("a", "b", "c"), "a": ("b", "c", "d")},
                      {"d": "abc"}, {"d": ("a", "b", None)}, {"d": ("a", "b", 1)}, {"d": (("a",), "b", "c")}]:
            for call in self.tree_calls():
                self.refuses(InvalidTrees, call, flat, OUTER, value)
            self.is_bool(is_three_trees(flat, OUTER, value), False)
            if value != {"d": ("a", "b", "c")}:
                self.is_bool(is_pointing(flat, OUTER, value), False)
                self.refuses(InvalidTrees, trees_by, flat, OUTER, value)

    def test_wrong_places(self):
        trees = three_trees(flat, OUTER)
        for value in ["a", "b", "c", "x", *WRONG, *OBJECTS]:
            self.refuses(UnknownName, ways_of, flat, OUTER, trees, value, word=value)

    def test_nothing_changes(self):
        trees = three_trees(SIX, OUTER)
        again = dict(trees)
        for ring in turnable(SIX, OUTER, trees):
            turned_ring(SIX, OUTER, trees, ring)
        pointing = pointing_of(SIX, OUTER, trees)
        trees_by(SIX, OUTER, pointing)
        pointing["d"] = ()
        self.assertEqual((trees, FOUR, pointing_of(SIX, OUTER, trees)["d"]), (again, flat.web, tuple(sorted(again["d"]))))
