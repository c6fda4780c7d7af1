"""[4.1] to [4.3]: blocks of a web, and partings."""

import itertools

from flatwebs.base.webs import Web, full_web, ring_web
from flatwebs.errors import InvalidOperation, InvalidPart, InvalidTie, InvalidWeb, UnknownName
from flatwebs.tree.partings import (
    all_blocks, block_web, block_with, cut_places, is_held, is_least_parting, is_parting, least_partings,
    parting_pairs, sides_at)
from tests.samples import (
    APART, BOW, FOUR, GLUED, HOUSES, KITE, OBJECTS, ONE, PRISM, TWELVE, TWO, WHEEL, WRONG, Case, all_tables,
    any_drawing, every_full, flat, not_webs, slow_is_block, slow_lots, some_webs, subsets, webs_on)

SAMPLES = [ONE, TWO, APART, BOW, GLUED, HOUSES, KITE, PRISM, WHEEL, FOUR, *webs_on(4), *some_webs(6, 7, 15, 1),
           *some_webs(7, 10, 10, 2), *some_webs(8, 15, 5, 3), Web(("a", "b", "c"), ())]
FORTY = Web(TWELVE, tuple(itertools.combinations(TWELVE, 2))[:40])


def rest_lots(web, gone):
    """The lots of a web without some places."""
    return slow_lots([place for place in web.places if place not in gone], web.ties)


def slow_blocks(web):
    """The blocks, as the greatest sets of places that hang together without cut places."""
    blocks = []
    for row in reversed(list(subsets(web.places))):
        if row and len(slow_lots(row, web.ties)) == 1:
            rests = [slow_lots([x for x in row if x != place], web.ties) for place in row]
            if all(len(lots) <= 1 for lots in rests) and not any(set(row) <= set(found) for found in blocks):
                blocks.append(row)
    return tuple(sorted(blocks))


def slow_partings(web):
    """The parting sets, and the least ones of them."""
    found = [row for row in subsets(web.places) if len(row) < len(web) and len(rest_lots(web, row)) > 1]
    least = [row for row in found if not any(set(other) < set(row) for other in found)]
    return found, least


class Examples(Case):

    def test_examples(self):
        self.assertEqual(
            [cut_places(BOW), all_blocks(BOW), block_with(BOW, "e", "d"), str(block_web(BOW, ("e", "f"))),
             least_partings(BOW)],
            [("c", "e"), (("a", "b", "c"), ("c", "d", "e"), ("e", "f")), ("c", "d", "e"), "web of 2 places, 1 ties",
             (("c",), ("e",))])
        glued = full_web(("a", "b", "c", "d")) + full_web(("a", "b", "e", "f"))
        self.assertEqual(
            [parting_pairs(glued), sides_at(glued, "a", "b"), parting_pairs(KITE), sides_at(KITE, "c", "b"),
             least_partings(WHEEL), is_held(WHEEL), is_parting(WHEEL, ("a", "c")),
             is_least_parting(glued, ("a", "b", "c"))],
            [(("a", "b"),), ((), ("c", "d"), ("e", "f")), (("b", "c"),), ((), ("a",), ("d",)),
             (("a", "c", "h"), ("b", "d", "h")), True, False, False])


class Blocks(Case):

    def test_blocks_and_cuts(self):
        for web in SAMPLES:
            blocks = slow_blocks(web)
            self.assertEqual(all_blocks(web), blocks)
            lots = len(web.lots)
            cuts = tuple(p for p in web.places if len(web) > 1 and len(rest_lots(web, (p,))) > lots)
            self.assertEqual(cut_places(web), cuts)
            self.is_bool(len(web) >= 3 and blocks == (web.places,), web.is_block)
            for place in web.places:
                self.is_bool(sum(place in block for block in blocks) > 1, place in cuts)

    def test_edges(self):
        self.assertEqual([cut_places(ONE), all_blocks(ONE)], [(), (("a",),)])
        self.assertEqual(all_blocks(APART.with_place("z")), (("a", "b"), ("c", "d"), ("z",)))
        self.assertEqual([cut_places(FORTY), all_blocks(Web(TWELVE, ()))], [(), tuple((x,) for x in TWELVE)])
        row = Web.of_ties(*zip(TWELVE, TWELVE[1:]))
        # Two lots, of which the first one has the greater cut place.
        lots = Web.of_ties(("a", "e"), ("e", "f"), ("b", "c"), ("c", "d"))
        self.assertEqual([cut_places(lots), all_blocks(lots)], [
            ("c", "e"), (("a", "e"), ("b", "c"), ("c", "d"), ("e", "f"))])
        self.assertEqual([cut_places(row), all_blocks(row)], [TWELVE[1:-1], tuple(zip(TWELVE, TWELVE[1:]))])

    def test_block_with(self):
        for web in SAMPLES:
            for a, b in web:
                block = block_with(web, b, a)
                self.assertTrue(a in block and b in block and block in all_blocks(web))
        for wrong in ["x", *WRONG, *OBJECTS]:
            self.refuses(UnknownName, block_with, BOW, wrong, "zz", word=wrong)
            self.refuses(UnknownName, block_with, BOW, "a", wrong, word=wrong)
        for a, b in (("a", "a"), ("a", "d"), ("f", "c")):
            self.refuses(InvalidTie, block_with, BOW, a, b)

    def test_block_web(self):
        for web in SAMPLES:
            for block in all_blocks(web):
                part = block_web(web, block)
                self.assertEqual(part.places, block)
                self.assertEqual(part.ties, tuple(tie for tie in web if set(tie) <= set(block)))
        for wrong in [("a", "b"), ("c", "b", "a"), ["e", "f"], ("f", "e"), ("a",), ("a", "b", "c", "d"), *WRONG,
                      *OBJECTS]:
            self.refuses(InvalidPart, block_web, BOW, wrong)

    def test_no_webs(self):
        for value in not_webs():
            for call in (cut_places, all_blocks, least_partings, parting_pairs, is_held):
                self.refuses(InvalidWeb, call, value)
            for call in (block_web, is_parting, is_least_parting):
                self.refuses(InvalidWeb, call, value, None)
            for call in (block_with, sides_at):
                self.refuses(InvalidWeb, call, value, "zz", "zz")


class Partings(Case):

    def test_partings(self):
        for web in SAMPLES:
            found, least = slow_partings(web)
            for row in subsets(web.places):
                self.is_bool(is_parting(web, row), row in found)
                self.is_bool(is_least_parting(web, row), row in least)
            self.assertEqual(least_partings(web), tuple(sorted(least, key=lambda row: (len(row), row))))

    def test_edges(self):
        self.assertEqual([least_partings(web) for web in (ONE, TWO, FOUR, every_full(9))], [(), (), (), ()])
        self.assertEqual(least_partings(Web(TWELVE, ())), ((),))
        self.assertEqual([is_parting(ONE, ()), is_parting(APART, ()), is_least_parting(APART, ())],
                         [False, True, True])
        self.assertEqual(len(least_partings(ring_web(TWELVE))), 54)
        self.is_bool(is_parting(APART, ("a", "b", "c", "d")), False)
        self.is_bool(is_least_parting(APART, ("a",)), False)

    def test_wrong_sets(self):
        for value in [("c", "a"), ("a", "a"), ("a", "x"), ["a"], ["c"], "c", {"c": 1}, ("c", None), (("c",),), *WRONG,
                      *OBJECTS]:
            if value != ():
                self.is_bool(is_parting(BOW, value), False)
                self.is_bool(is_least_parting(BOW, value), False)
                self.is_bool(is_parting(APART, value), False)

    def test_pairs_and_held(self):
        for web in SAMPLES + [ring_web(TWELVE), ring_web(TWELVE).with_tie("a", "g")]:
            if not slow_is_block(web):
                self.refuses(InvalidOperation, parting_pairs, web)
                self.is_bool(is_held(web), False)
                continue
            pairs = [pair for pair in itertools.combinations(web.places, 2) if len(rest_lots(web, pair)) > 1]
            self.assertEqual(parting_pairs(web), tuple(pairs))
            self.is_bool(is_held(web), len(web) >= 4 and not pairs)

    def test_held_edges(self):
        triangle = ring_web(("a", "b", "c"))
        self.assertEqual([parting_pairs(triangle), is_held(triangle), is_held(FOUR), is_held(HOUSES), is_held(FORTY)],
                         [(), False, True, True, True])


class Sides(Case):

    def test_sides(self):
        for web in SAMPLES + [ring_web(TWELVE)]:
            if not slow_is_block(web):
                self.refuses(InvalidOperation, sides_at, web, "zz", None)
                continue
            for a, b in itertools.product(web.places, repeat=2):
                lots = rest_lots(web, (a, b))
                if a == b or len(lots) < 2:
                    self.refuses(InvalidOperation, sides_at, web, a, b)
                    continue
                tied = ((),) if b in web.neighbours(a) else ()
                self.assertEqual(sides_at(web, a, b), tied + lots)
                for side in lots:
                    for place in (a, b):
                        self.assertTrue(set(side) & set(web.neighbours(place)))

    def test_sides_refuse(self):
        for wrong in ["x", *WRONG, *OBJECTS]:
            self.refuses(UnknownName, sides_at, KITE, wrong, "zz", word=wrong)
            self.refuses(UnknownName, sides_at, KITE, "b", wrong, word=wrong)
        self.refuses(InvalidOperation, sides_at, KITE, "b", "b")
        self.refuses(InvalidOperation, sides_at, KITE, "a", "d")
        self.refuses(InvalidOperation, sides_at, BOW, "c", "e")

    def test_sides_stand_together(self):
        # [4.3]: round both places the sides follow one another, in opposite orders.
        for web in (GLUED, KITE, Web.of_ties(*[(a, x) for a in "ab" for x in "xyz"])):
            drawing = any_drawing(web)
            for a, b in parting_pairs(web):
                sides = sides_at(web, a, b)
                rows = []
                for one, other in ((a, b), (b, a)):
                    row = [next(k for k, side in enumerate(sides) if x in side or (x == other and not side))
                           for x in drawing.round_at(one)]
                    row = [side for k, side in enumerate(row) if side != row[k - 1]]
                    self.assertEqual(sorted(row), list(range(len(sides))))
                    at = row.index(0)
                    rows.append(row[at:] + row[:at])
                self.assertEqual(rows[0][1:], rows[1][:0:-1])

    def test_parting_pairs_of_drawings(self):
        # [0.15] leads to the same pairs by the rims alone.
        for web in (KITE, GLUED, WHEEL, ring_web(TWELVE[:5])):
            rims = any_drawing(web).rims
            pairs = [(a, b) for a, b in itertools.combinations(web.places, 2)
                     if sum(a in rim and b in rim for rim in rims) >= 2 + web.is_tied(a, b)]
            self.assertEqual(parting_pairs(web), tuple(pairs))
        self.assertEqual(sum(1 for _ in all_tables(flat.web)), 16)
