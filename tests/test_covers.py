"""[10.1] to [10.4], [0.17] and what [0.23] says of them: covers by rings."""

import itertools
import random

from flatwebs.base.drawings import is_drawing
from flatwebs.base.rings import each_ring, plain_ring, ring_ties
from flatwebs.base.webs import Web, full_web, ring_web
from flatwebs.draw.bars import drawing_of, has_drawing
from flatwebs.draw.counted import each_drawing
from flatwebs.errors import InvalidCover, InvalidDrawing, InvalidOperation, InvalidRoute, InvalidWeb, UnknownName
from flatwebs.rims.covers import (
    cover_by, cover_of, drawings_by, is_cover, is_double, lots_of_rings, places_beside, rounds_at, sides_of_ring,
    sum_of_rings)
from flatwebs.rims.duals import ring_sides, within_ring
from tests.samples import (
    APART, BOW, CUBE, FLAT_TABLE, FOUR, GLUED, HOUSES, KITE, OBJECTS, OCTA, ONE, PETERSEN, PRISM, THREE, TWELVE, TWO,
    WHEEL, WRONG, Case, bent, blocks_on, every_full, flat, held_webs, not_drawings, not_webs, slow_lots, woven_webs)

BLOCKS = [*blocks_on(3, 4, 5), *held_webs(), GLUED, KITE, THREE, THREE.with_tie("a", "b"), HOUSES, PETERSEN,
          ring_web(TWELVE), *woven_webs(7, 10, 51), *woven_webs(10, 6, 52)]
FLAT = [web for web in BLOCKS if has_drawing(web)]
TRIANGLE = ring_web(("a", "b", "c"))
# The last one has no drawing, either.
NO_BLOCKS = [ONE, TWO, BOW, APART, Web(TWELVE, ()), HOUSES + Web.of_ties(("a", "x"))]


def slow_held(rings):
    """How often each tie is held."""
    held = {}
    for ring in rings:
        for tie in ring_ties(ring):
            held[tie] = held.get(tie, 0) + 1
    return held


def slow_is_double(web, value):
    if type(value) is not tuple or not all(ring in each_plain(web) for ring in value):
        return False
    return list(value) == sorted(value) and slow_held(value) == {tie: 2 for tie in web.ties}


def slow_is_cover(web, value):
    """[10.1], with all choices of some of the rings."""
    if not slow_is_double(web, value) or len(value) != len(web.ties) - len(web.places) + 2:
        return False
    for bits in range(1, (1 << len(value)) - 1):
        if 1 not in slow_held([ring for k, ring in enumerate(value) if bits >> k & 1]).values():
            return False
    return True


def each_plain(web, known={}):
    """The plain rings of a web, kept from call to call."""
    if web.ties not in known:
        known[web.ties] = list(each_ring(web))
    return known[web.ties]


def each_double(web, chosen=(), held=None):
    """Tuples of rings by which each tie of a web is held twice, as they are found, some again and again."""
    held = held or {}
    open_ties = [tie for tie in web.ties if held.get(tie, 0) < 2]
    if not open_ties:
        yield tuple(sorted(chosen))
    for ring in each_plain(web) if open_ties else ():
        if open_ties[0] in ring_ties(ring) and all(held.get(tie, 0) < 2 for tie in ring_ties(ring)):
            more = {tie: held.get(tie, 0) + (tie in ring_ties(ring)) for tie in web.ties}
            yield from each_double(web, chosen + (ring,), more)


def slow_rounds(rings, place):
    """The rounds at a place, by walking from ring to ring over the ties at it."""
    ends = [[tie for tie in ring_ties(ring) if place in tie] for ring in rings]
    rest = [k for k, ties in enumerate(ends) if ties]
    rounds = 0
    while rest:
        todo = [rest.pop()]
        rounds += 1
        while todo:
            k = todo.pop()
            for j in [j for j in rest if set(ends[j]) & set(ends[k])]:
                rest.remove(j)
                todo.append(j)
    return rounds


class Examples(Case):

    def test_examples(self):
        self.assertEqual(
            [cover_of(KITE), cover_of(HOUSES), cover_of(TRIANGLE),
             is_cover(FOUR, (("a", "b", "c"), ("a", "b", "d"), ("a", "c", "d"), ("b", "c", "d")))],
            [(("a", "b", "c"), ("a", "b", "d", "c"), ("b", "c", "d")), None, (("a", "b", "c"), ("a", "b", "c")), True])
        three = drawings_by(KITE, cover_of(KITE))
        self.assertEqual(
            [len(three), three[0].lines, three[1] == three[0].mirror, cover_by(three[1]) == cover_of(KITE),
             sum_of_rings(KITE, (("a", "b", "c"), ("b", "c", "d")))],
            [2, ("a: b c", "b: a c d", "c: a d b", "d: b c"), True, True,
             (("a", "b"), ("a", "c"), ("b", "d"), ("c", "d"))])
        wheel = cover_of(WHEEL)
        self.assertEqual(
            [sides_of_ring(WHEEL, wheel, ("a", "b", "c", "h")), places_beside(WHEEL, wheel, ("a", "b", "c", "h")),
             places_beside(WHEEL, wheel, ("a", "b", "c", "d"))],
            [((0, 2, 4), (1, 3)), (("d",), ()), ((), ("h",))])


class Covers(Case):

    def test_covers(self):
        for web in BLOCKS:
            cover = cover_of(web)
            if not has_drawing(web):
                self.assertIs(cover, None)
                continue
            self.is_bool(is_cover(web, cover), True)
            self.is_bool(is_double(web, cover), True)
            if len(cover) < 12:
                self.assertTrue(slow_is_cover(web, cover))
            self.assertEqual(cover_of(web), cover)
            self.is_bool(len(set(cover)) < len(cover), len(web.ties) == len(web.places))

    def test_covers_and_drawings(self):
        for web in FLAT:
            drawings = []
            for drawing in each_drawing(web):
                drawings.append(drawing)
                if len(drawings) == 30:
                    break
            for drawing in drawings:
                cover = cover_by(drawing)
                self.assertEqual(cover, tuple(sorted(plain_ring(rim) for rim in drawing.rims)))
                self.is_bool(is_cover(web, cover), True)
                wanted = {one.lines for one in (drawing, drawing.mirror)}
                found = drawings_by(web, cover)
                self.assertEqual([one.lines for one in found], sorted(wanted))
                self.assertEqual(len(found), 1 if len(web.ties) == len(web.places) else 2)
                self.assertTrue(all(one.web == web and is_drawing(web, one.table) for one in found))
                self.assertEqual(cover_by(drawing.mirror), cover)

    def test_all_doubles_of_small_blocks(self):
        # [10.2]: of all rings that hold each tie twice, just those of drawings are covers.
        for web in [*blocks_on(3, 4), *blocks_on(5)[::9], KITE, THREE, WHEEL, PRISM, HOUSES, every_full(5)]:
            covers = {cover_by(drawing) for drawing in each_drawing(web)}
            doubles = sorted(set(itertools.islice(each_double(web), 400)) | covers)
            for rings in doubles:
                self.is_bool(is_double(web, rings), True)
                self.is_bool(is_cover(web, rings), rings in covers)
                self.is_bool(slow_is_cover(web, rings), rings in covers)
                self.check_rounds(web, rings)

    def check_rounds(self, web, rings):
        """[10.3]"""
        lots = lots_of_rings(web, rings)
        links = [(i, j) for i, j in itertools.combinations(range(len(rings)), 2)
                 if set(ring_ties(rings[i])) & set(ring_ties(rings[j]))]
        self.assertEqual(lots, slow_lots(range(len(rings)), links))
        rounds = [rounds_at(web, rings, place) for place in web.places]
        self.assertEqual(rounds, [slow_rounds(rings, place) for place in web.places])
        self.assertTrue(min(rounds) >= 1)
        self.assertLessEqual(len(rings) - len(web.ties) + sum(rounds), 2 * len(lots))
        whole = len(lots) == 1 and len(rings) == len(web.ties) - len(web.places) + 2
        self.is_bool(is_cover(web, rings), whole)
        if whole:
            self.assertEqual(set(rounds), {1})

    def test_doubles_that_are_no_covers(self):
        # As many rings as a drawing has rims, each tie in two of them, and yet no cover: two lots.
        web = full_web(tuple("abcd"))
        rings = tuple(sorted([("a", "b", "c"), ("a", "b", "d"), ("a", "c", "d"), ("b", "c", "d")]))
        self.is_bool(is_cover(web, rings), True)
        short = tuple(sorted([("a", "b", "c", "d"), ("a", "b", "d", "c"), ("a", "c", "b", "d")]))
        self.is_bool(is_double(web, short), True)
        self.is_bool(is_cover(web, short), False)
        self.refuses(InvalidCover, drawings_by, web, short)
        # [0.23]: as many rings as a drawing has rims, each tie in two of them, but in two lots.
        rest = full_web(tuple("abef")).without_tie("a", "b")
        rings = tuple(sorted(cover_of(FOUR) + cover_of(rest)))
        self.assertEqual(len(rings), len(drawing_of(GLUED)))
        self.is_bool(is_double(GLUED, rings), True)
        self.is_bool(is_cover(GLUED, rings), False)
        self.refuses(InvalidCover, sides_of_ring, GLUED, rings, ("a", "b", "c"))
        self.assertEqual([len(lots_of_rings(GLUED, rings)), rounds_at(GLUED, rings, "a")], [2, 2])
        self.check_rounds(GLUED, rings)

    def test_held_webs(self):
        for web in held_webs():
            self.assertEqual({cover_by(drawing) for drawing in each_drawing(web)}, {cover_of(web)})

    def test_near_covers(self):
        for web in (KITE, FOUR, TRIANGLE, THREE):
            cover = cover_of(web)
            for value in bent(cover):
                self.is_bool(is_cover(web, value), slow_is_cover(web, value))
                self.is_bool(is_double(web, value), slow_is_double(web, value))
                if not slow_is_cover(web, value):
                    self.refuses(InvalidCover, drawings_by, web, value)
                    self.refuses(InvalidCover, sides_of_ring, web, value, None)
                if not slow_is_double(web, value):
                    self.refuses(InvalidCover, lots_of_rings, web, value)
        self.is_bool(is_cover(KITE, (("a", "b", "c"), ("a", "c", "d", "b"), ("b", "c", "d"))), False)
        self.is_bool(is_cover(KITE, (("a", "b", "c"), ("b", "c", "d"), ("a", "b", "d", "c"))), False)
        self.is_bool(is_cover(TRIANGLE, (("a", "b", "c"), ("a", "c", "b"))), False)
        self.is_bool(is_cover(TRIANGLE, (("a", "b", "c"),) * 4), False)


class Sums(Case):

    def test_sums(self):
        chance = random.Random(8)
        for web in FLAT:
            rings = each_plain(web)
            self.assertEqual(sum_of_rings(web, ()), ())
            self.assertEqual(sum_of_rings(web, cover_of(web)), ())
            for _ in range(10):
                some = tuple(chance.choice(rings) for _ in range(chance.randint(1, 6)))
                held = slow_held(some)
                self.assertEqual(sum_of_rings(web, some), tuple(sorted(tie for tie in held if held[tie] % 2)))

    def test_sides(self):
        for web in FLAT:
            cover = cover_of(web)
            for ring in each_plain(web)[::1 + len(each_plain(web)) // 12]:
                sides = sides_of_ring(web, cover, ring)
                self.assertEqual(len(sides), 2)
                self.assertEqual(sorted(sides[0] + sides[1]), list(range(len(cover))))
                self.assertEqual([list(side) for side in sides], [sorted(side) for side in sides])
                self.assertEqual(sides[0][0], 0)
                for side in sides:
                    self.assertEqual(sum_of_rings(web, tuple(cover[k] for k in side)), ring_ties(ring))
                beside = places_beside(web, cover, ring)
                rest = tuple(p for p in web.places if p not in ring)
                self.assertEqual(tuple(sorted(beside[0] + beside[1])), rest)
                for side, places in zip(sides, beside):
                    self.assertEqual(list(places), sorted(places))
                    for place in places:
                        having = [k for k, one in enumerate(cover) if place in one]
                        self.assertTrue(set(having) <= set(side))
                # Places that hang together without the ring are on one side.
                for lot in slow_lots(rest, web.ties):
                    self.assertTrue(set(lot) <= set(beside[0]) or set(lot) <= set(beside[1]))

    def test_sides_by_rims_and_by_lots(self):
        for web in FLAT:
            drawing = drawing_of(web)
            cover = cover_by(drawing)
            for ring in each_plain(web)[::1 + len(each_plain(web)) // 12]:
                told = zip(sides_of_ring(web, cover, ring), places_beside(web, cover, ring))
                by_lots = [([cover[k] for k in side], places) for side, places in told]
                by_rims = [(sorted(plain_ring(rim) for rim in side), places)
                           for side, places in zip(ring_sides(drawing, ring), within_ring(drawing, ring))]
                self.assertEqual(sorted(by_lots), sorted(by_rims))

    def test_just_two_sums(self):
        for web in (KITE, FOUR, THREE, WHEEL, PRISM):
            cover = cover_of(web)
            for ring in each_plain(web):
                found = [some for many in range(len(cover) + 1)
                         for some in itertools.combinations(range(len(cover)), many)
                         if sum_of_rings(web, tuple(cover[k] for k in some)) == ring_ties(ring)]
                self.assertEqual(tuple(sorted(found)), sides_of_ring(web, cover, ring))

    def test_edges(self):
        cover = cover_of(TRIANGLE)
        self.assertEqual(sides_of_ring(TRIANGLE, cover, ("a", "b", "c")), ((0,), (1,)))
        self.assertEqual(places_beside(TRIANGLE, cover, ("a", "b", "c")), ((), ()))
        self.assertEqual([lots_of_rings(TRIANGLE, cover), rounds_at(TRIANGLE, cover, "b")], [((0, 1),), 1])
        self.assertEqual(len(drawings_by(ring_web(TWELVE), cover_of(ring_web(TWELVE)))), 1)
        self.assertEqual([len(drawings_by(web, cover_of(web))) for web in (CUBE, OCTA, PRISM)], [2, 2, 2])


class Wrong(Case):

    WITH_VALUE = (is_cover, is_double, drawings_by, sum_of_rings, lots_of_rings)

    def test_wrong_webs(self):
        for error, values in ((InvalidWeb, not_webs()), (InvalidOperation, NO_BLOCKS)):
            for value in values:
                self.refuses(error, cover_of, value)
                for call in self.WITH_VALUE:
                    self.refuses(error, call, value, None)
                for call in (rounds_at, sides_of_ring, places_beside):
                    self.refuses(error, call, value, None, None)

    def test_wrong_drawings(self):
        self.refuses_all(InvalidDrawing, cover_by, [*not_drawings(), FLAT_TABLE])
        self.refuses_all(InvalidOperation, cover_by, [drawing_of(web) for web in (ONE, TWO, BOW)])
        self.assertEqual(len(cover_by(flat)), 4)

    def test_wrong_values(self):
        cover = cover_of(FOUR)
        for value in [cover[::-1], list(cover), cover + cover[:1], [*cover], *WRONG, *OBJECTS]:
            self.is_bool(is_cover(FOUR, value), False)
            self.is_bool(is_double(FOUR, value), False)
            for call in (drawings_by, lots_of_rings):
                self.refuses(InvalidCover, call, FOUR, value)
            for call in (rounds_at, sides_of_ring, places_beside):
                self.refuses(InvalidCover, call, FOUR, value, None)
            if value not in ((), cover[::-1], cover + cover[:1]) and value != (("a", "b", "c"),):
                self.refuses(InvalidCover, sum_of_rings, FOUR, value)
        for value in ((("a", "b", "x"),), (("b", "a", "c"),), (("a", "c", "b"),), (("a", "b"),), ("a", "b", "c")):
            self.refuses(InvalidCover, sum_of_rings, FOUR, value)
        self.refuses(InvalidCover, sum_of_rings, WHEEL, (("a", "b", "c"),))

    def test_wrong_places_and_rings(self):
        cover = cover_of(FOUR)
        for value in ["x", ("a",), *WRONG, *OBJECTS]:
            self.refuses(UnknownName, rounds_at, FOUR, cover, value, word=value)
        for value in [("b", "c", "a"), ("a", "c", "b"), ["a", "b", "c"], ("a", "b", "x"), *WRONG, *OBJECTS]:
            self.refuses(InvalidRoute, sides_of_ring, FOUR, cover, value)
            self.refuses(InvalidRoute, places_beside, FOUR, cover, value)
        self.refuses(InvalidRoute, sides_of_ring, WHEEL, cover_of(WHEEL), ("a", "b", "c"))
        self.refuses(InvalidCover, sides_of_ring, WHEEL, cover, ("a", "b", "c"))
        self.assertEqual(sum_of_rings(GLUED, (("a", "b", "c"),) * 2), ())
