"""[8.1] to [8.5], [0.15]: rims and partings."""

import itertools
import random

from flatwebs.base.drawings import Drawing
from flatwebs.base.webs import Web, ring_web
from flatwebs.draw.bars import drawing_of
from flatwebs.draw.counted import each_drawing
from flatwebs.errors import InvalidDrawing, InvalidNoose, InvalidOperation, InvalidRim, UnknownName
from flatwebs.rims.partings import (
    MAX_NOOSE, are_parting, is_noose, loose_meeting, meeting, noose_through, pairs_by_rims, parting_noose, rims_with,
    sides_of)
from flatwebs.tree.partings import is_held, least_partings, parting_pairs
from tests.samples import (
    BOW, CUBE, FLAT_TABLE, GLUED, KITE, OBJECTS, OCTA, ONE, PRISM, THREE, TWELVE, TWO, WHEEL, WRONG, Case, bent,
    blocks_on, flat, held_webs, not_drawings, slow_lots, subsets, woven_webs)

WEBS = [web for web in [*blocks_on(3, 4, 5), *held_webs(), GLUED, KITE, THREE, THREE.with_tie("a", "b"),
                        ring_web(TWELVE), *woven_webs(7, 10, 21), *woven_webs(10, 10, 22)] if drawing_of(web)]
DRAWN = [drawing_of(web) for web in WEBS] + [drawing_of(web).mirror for web in WEBS[::5]] + [
    drawing for web in (KITE, GLUED, THREE) for drawing in each_drawing(web)]
SMALL = [drawing for drawing in DRAWN if len(drawing.web) <= 5]
# Two rings of five, joined by five ties.
DRUM = Web.of_ties(*[tuple(sorted(pair)) for k in range(5) for pair in (
    ("abcde"[k], "abcde"[k - 1]), ("abcde"[k], "fghij"[k]), ("fghij"[k], "fghij"[k - 1]))])
kite = flat.without_tie("a", "b")
ring = drawing_of(ring_web(tuple("abcdef")))
NO_BLOCKS = [drawing_of(web) for web in (ONE, TWO, BOW)]


def slow_is_noose(drawing, value):
    """[8.3], as it is told."""
    if type(value) is not tuple or len(value) != 2 or not all(type(row) is tuple for row in value):
        return False
    places, rims = value
    if not 2 <= len(places) == len(rims):
        return False
    if not all(p in drawing.web.places for p in places) or not all(rim in drawing.rims for rim in rims):
        return False
    if len(set(places)) != len(places) or len(set(rims)) != len(rims):
        return False
    return all(places[k] in rims[k] and places[(k + 1) % len(places)] in rims[k] for k in range(len(places)))


def slow_sides(drawing, noose):
    """The places on both sides, by the ties: two ties are on one side if no gap of the noose is between them."""
    places, rims = noose
    sides = {tie: {tie} for tie in drawing.web.ties}
    for place in drawing.web.places:
        near = drawing.round_at(place)
        for k, one in enumerate(near):
            other = near[(k + 1) % len(near)]
            gap = drawing.rim_along(place, other)
            at = places.index(place) if place in places else None
            if at is None or gap not in (rims[at], rims[at - 1]):
                pair = [sides[tuple(sorted((place, end)))] for end in (one, other)]
                for tie in pair[1] if pair[0] is not pair[1] else ():
                    pair[0].add(tie)
                    sides[tie] = pair[0]
    rim = rims[-1]
    first = sides[tuple(sorted((places[0], rim[(rim.index(places[0]) + 1) % len(rim)])))]
    found = [tuple(sorted({p for tie in ties for p in tie} - set(places))) for ties in (
        first, set(drawing.web.ties) - first)]
    return tuple(found)


def slow_nooses(drawing, many):
    """All nooses with so many places."""
    for places in itertools.permutations(drawing.web.places, many):
        for rims in itertools.permutations(drawing.rims, many):
            if slow_is_noose(drawing, (places, rims)):
                yield (places, rims)


def some_nooses(drawing, count, seed):
    """Some nooses of all lengths, found by walking at random from place to place."""
    chance = random.Random(seed)
    for _ in range(count):
        places, rims = [chance.choice(drawing.web.places)], []
        while True:
            ways = [(rim, place) for rim in drawing.rims if rim not in rims and places[-1] in rim
                    for place in rim if place not in places]
            home = [rim for rim in drawing.rims if rim not in rims and places[0] in rim and places[-1] in rim]
            if len(places) > 1 and home and (not ways or chance.random() < .3):
                yield (tuple(places), (*rims, home[0]))
                break
            if not ways:
                break
            rim, place = chance.choice(ways)
            rims.append(rim)
            places.append(place)


class Examples(Case):

    def test_examples(self):
        self.assertEqual(
            [rims_with(kite, "a"), rims_with(kite, "c", "d"), are_parting(kite, "c", "d"), pairs_by_rims(kite),
             pairs_by_rims(flat)],
            [(("a", "c", "d"), ("a", "d", "b", "c")), (("a", "c", "d"), ("a", "d", "b", "c"), ("b", "d", "c")), True,
             (("c", "d"),), ()])
        self.assertEqual(
            [meeting(kite, ("a", "c", "d"), ("b", "d", "c")), meeting(kite, ("a", "c", "d"), ("a", "d", "b", "c")),
             loose_meeting(flat), parting_noose(flat)],
            [("tie", "c", "d"), ("places", "a", "c", "d"), None, None])
        self.assertEqual(
            [sides_of(kite, (("c", "d"), (("a", "c", "d"), ("a", "d", "b", "c")))),
             sides_of(kite, (("c", "d"), (("a", "c", "d"), ("b", "d", "c")))), noose_through(kite, ("a", "b"))],
            [(("a",), ("b",)), (("a", "b"), ()), None])
        self.assertEqual(MAX_NOOSE, 4)


class Pairs(Case):

    def test_pairs_by_two_roads(self):
        for drawing in DRAWN:
            pairs = parting_pairs(drawing.web)
            self.assertEqual(pairs_by_rims(drawing), pairs)
            for a, b in itertools.permutations(drawing.web.places, 2):
                self.is_bool(are_parting(drawing, a, b), tuple(sorted((a, b))) in pairs)

    def test_rims_with(self):
        for drawing in DRAWN:
            self.assertEqual(rims_with(drawing), drawing.rims)
            for row in itertools.islice(subsets(drawing.web.places), 60):
                found = tuple(rim for rim in drawing.rims if set(row) <= set(rim))
                self.assertEqual(rims_with(drawing, *row), found)
        self.assertEqual(rims_with(flat, "a", "a", "b"), rims_with(flat, "b", "a"))

    def test_meetings(self):
        for drawing in DRAWN:
            loose = []
            for one, other in itertools.permutations(drawing.rims, 2):
                common = tuple(sorted(set(one) & set(other)))
                walked = [{tuple(sorted(step)) for step in zip(rim, rim[1:] + rim[:1])} for rim in (one, other)]
                if not common:
                    wanted = ("nothing",)
                elif len(common) == 1:
                    wanted = ("place", *common)
                elif len(common) == 2 and common in walked[0] & walked[1]:
                    wanted = ("tie", *common)
                else:
                    wanted = ("places", *common)
                    loose.append((one, other))
                self.assertEqual(meeting(drawing, one, other), wanted)
            found = loose_meeting(drawing)
            if loose:
                self.assertIn(found, [(one, other) for one, other in loose if one < other])
            else:
                self.assertIs(found, None)
            if len(drawing.web) > 3:
                # [8.2]
                self.is_bool(is_held(drawing.web), found is None)

    def test_kinds_of_meetings(self):
        cube = drawing_of(CUBE)
        kinds = {meeting(cube, one, other)[0] for one, other in itertools.permutations(cube.rims, 2)}
        self.assertEqual(kinds, {"nothing", "tie"})
        octa = drawing_of(OCTA)
        kinds = {meeting(octa, one, other)[0] for one, other in itertools.permutations(octa.rims, 2)}
        self.assertEqual(kinds, {"nothing", "place", "tie"})
        self.assertEqual(meeting(ring, *ring.rims), ("places", *"abcdef"))
        # Two places, not tied, and two tied ones whose tie is on other rims.
        drawing = drawing_of(THREE.with_tie("a", "b"))
        rims = [rim for rim in drawing.rims if len(rim) == 3]
        self.assertEqual(meeting(drawing, *rims), ("tie", "a", "b"))
        others = [rim for rim in drawing.rims if len(rim) == 4]
        self.assertEqual([meeting(drawing, *others)[0], meeting(drawing, rims[0], others[0])[0]], ["places"] * 2)
        apart = [rim for rim in others if not set(rim) & set(rims[0]) - {"a", "b"}][0]
        self.assertEqual(meeting(drawing, rims[0], apart), ("places", "a", "b"))

    def test_wrong_meetings(self):
        for value in [("c", "d", "a"), ("a", "d", "c"), ["a", "c", "d"], "acd", *WRONG, *OBJECTS]:
            self.refuses(InvalidRim, meeting, kite, value, value)
            self.refuses(InvalidRim, meeting, kite, ("a", "c", "d"), value)
            self.refuses(InvalidRim, meeting, kite, value, ("a", "c", "d"))
        self.refuses(InvalidOperation, meeting, kite, ("a", "c", "d"), ("a", "c", "d"))


class Nooses(Case):

    def test_all_small_nooses(self):
        for drawing in SMALL[::13]:
            ways = {}
            for many in (2, 3, 4):
                for k, noose in enumerate(slow_nooses(drawing, many)):
                    if k < 40:
                        self.is_bool(is_noose(drawing, noose), True)
                        self.assertEqual(sides_of(drawing, noose), slow_sides(drawing, noose))
                    if all(slow_sides(drawing, noose)):
                        ways.setdefault(tuple(sorted(noose[0])), []).append(noose)
                for places in itertools.combinations(drawing.web.places, many):
                    found = noose_through(drawing, places)
                    if places in ways:
                        self.assertIn(found, ways[places])
                    else:
                        self.assertIs(found, None)
            found = parting_noose(drawing)
            if [places for places in ways if len(places) == 2]:
                self.assertIn(found, [noose for places in ways if len(places) == 2 for noose in ways[places]])
            else:
                self.assertIs(found, None)

    def test_sides(self):
        for k, drawing in enumerate([*DRAWN[::2], drawing_of(DRUM)]):
            for places, rims in some_nooses(drawing, 12, k):
                sides = sides_of(drawing, (places, rims))
                self.assertEqual(sides, slow_sides(drawing, (places, rims)))
                self.assertEqual(sorted(sides[0] + sides[1] + places), list(drawing.web.places))
                # Told from another place on it has the same sides, told backward the other ones first.
                self.assertEqual(sides_of(drawing, (places[1:] + places[:1], rims[1:] + rims[:1])), sides)
                back = (places[::-1], rims[-2::-1] + rims[-1:])
                self.assertEqual(sides_of(drawing, back), sides[::-1])
                if all(sides):
                    rest = [p for p in drawing.web.places if p not in places]
                    self.assertGreater(len(slow_lots(rest, drawing.web.ties)), 1)

    def test_least_partings(self):
        # [8.5]: each one is the set of places of a noose whose sides both have places.
        seen = set()
        for drawing in DRAWN:
            for places in least_partings(drawing.web):
                if 2 <= len(places) <= MAX_NOOSE:
                    noose = noose_through(drawing, places)
                    self.is_bool(is_noose(drawing, noose), True)
                    self.assertEqual(tuple(sorted(noose[0])), places)
                    self.assertTrue(all(sides_of(drawing, noose)))
                    seen.add(len(places))
        self.assertEqual(seen, {2, 3, 4})

    def test_parting_nooses(self):
        for drawing in DRAWN:
            noose = parting_noose(drawing)
            self.is_bool(noose is None, len(drawing.web) == 3 or is_held(drawing.web))
            if noose is not None:
                self.is_bool(is_noose(drawing, noose), True)
                self.assertTrue(len(noose[0]) == 2 and all(slow_sides(drawing, noose)))

    def test_long_nooses(self):
        drum = drawing_of(DRUM)
        squares = [rims_with(drum, "abcde"[k - 1], "abcde"[k], "fghij"[k])[0] for k in range(5)]
        noose = (tuple("eabcd"), tuple(squares))
        self.is_bool(is_noose(drum, noose), True)
        self.assertEqual(sorted(sides_of(drum, noose)), [(), tuple("fghij")])
        mixed = (tuple("eabhd"), tuple(squares))
        self.is_bool(is_noose(drum, mixed), True)
        self.assertEqual(sorted(sides_of(drum, mixed)), [("c",), tuple("fgij")])
        self.assertIs(noose_through(drum, tuple("abcd")), None)

    def test_near_nooses(self):
        for drawing in (kite, flat, ring):
            for noose in itertools.islice(some_nooses(drawing, 9, 5), 6):
                for value in bent(noose):
                    self.is_bool(is_noose(drawing, value), slow_is_noose(drawing, value))
                    if not slow_is_noose(drawing, value):
                        self.refuses(InvalidNoose, sides_of, drawing, value)

    def test_nooses_by_hand(self):
        one, other = ring.rims
        self.is_bool(is_noose(ring, (("a", "c"), (one, other))), True)
        self.assertEqual(sides_of(ring, (("a", "c"), (one, other))), (("b",), ("d", "e", "f"))[::-1])
        self.assertEqual(sides_of(ring, (("a", "c"), (other, one))), (("b",), ("d", "e", "f")))
        self.is_bool(is_noose(ring, (("a", "c"), (one, one))), False)
        self.is_bool(is_noose(ring, (("a", "a"), (one, other))), False)
        self.is_bool(is_noose(ring, (("a",), (one,))), False)
        self.is_bool(is_noose(ring, (("a", "c"), (one,))), False)
        self.is_bool(is_noose(ring, (("a", "c", "e"), (one, other))), False)
        self.is_bool(is_noose(ring, (("a", "c"), (one, other[1:] + other[:1]))), False)
        self.is_bool(is_noose(ring, ((), ())), False)
        self.assertIs(noose_through(ring, ("a", "b")), None)
        self.assertEqual(sorted(sides_of(ring, noose_through(ring, ("a", "d")))), [("b", "c"), ("e", "f")])


class Wrong(Case):

    def test_wrong_values(self):
        for value in [*WRONG, *OBJECTS, (("a",), (("a", "c", "d"),))]:
            self.is_bool(is_noose(kite, value), False)
            self.refuses(InvalidNoose, sides_of, kite, value)
            for made in ((value, value), (("c", "d"), value), (value, (("a", "c", "d"), ("b", "d", "c"))),
                         ((value, "d"), (("a", "c", "d"), ("b", "d", "c"))), (("c", "d"), (value, ("b", "d", "c")))):
                self.is_bool(is_noose(kite, made), False)
            self.refuses(InvalidOperation, noose_through, kite, value)
        for value in (("a",), ("c", "a"), ("a", "a"), ["a", "b"], ("a", "x"), ("a", "b", "c", "d", "e"), ("a", None)):
            self.refuses(InvalidOperation, noose_through, kite, value)
        self.refuses(InvalidOperation, noose_through, ring, tuple("abcde"))

    def test_wrong_places(self):
        for value in ["x", "ab", *WRONG, *OBJECTS]:
            self.refuses(UnknownName, rims_with, kite, "a", value, "zz", word=value)
            self.refuses(UnknownName, are_parting, kite, value, "zz", word=value)
            self.refuses(UnknownName, are_parting, kite, "a", value, word=value)
            self.refuses(UnknownName, are_parting, kite, value, value, word=value)
        self.refuses(InvalidOperation, are_parting, kite, "a", "a")

    def test_wrong_drawings(self):
        for error, values in ((InvalidDrawing, [*not_drawings(), FLAT_TABLE]), (InvalidOperation, NO_BLOCKS)):
            for value in values:
                self.refuses(error, rims_with, value, None)
                for call in (pairs_by_rims, loose_meeting, parting_noose):
                    self.refuses(error, call, value)
                for call in (is_noose, sides_of, noose_through):
                    self.refuses(error, call, value, None)
                for call in (are_parting, meeting):
                    self.refuses(error, call, value, None, None)
        self.assertEqual(Drawing(PRISM, drawing_of(PRISM).table).web, PRISM)
        self.assertEqual(pairs_by_rims(drawing_of(WHEEL)), ())
