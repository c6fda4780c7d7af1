"""[7.1] to [7.3], [0.14]: all drawings of a block, and flips."""

import itertools
import math
import random

from flatwebs.base.drawings import Drawing, is_drawing
from flatwebs.base.webs import Web, full_web, ring_web
from flatwebs.draw.bars import drawing_of, has_drawing
from flatwebs.draw.counted import (
    after_flips, count_drawings, drawing_at, each_drawing, factors, flipped, flips_of, is_flip, is_mirrored,
    number_of, sides_round, way_between)
from flatwebs.errors import InvalidDrawing, InvalidFlip, InvalidNumber, InvalidOperation, InvalidWeb, UnknownName
from flatwebs.tree.partings import is_held, parting_pairs, sides_at
from flatwebs.tree.parts import PartTree
from tests.samples import (
    APART, BOW, CUBE, FLAT_TABLE, FOUR, GLUED, HOUSES, KITE, OBJECTS, ONE, PETERSEN, PRISM, THREE, TWELVE, TWO,
    WHEEL, WRONG, Case, all_drawings, bent, blocks_on, every_full, flat, held_webs, not_drawings, not_webs,
    woven_webs)

RING = ring_web(("a", "b", "c", "d"))
BOOK = THREE.with_tie("a", "b")
SMALL = [*blocks_on(3, 4, 5), WHEEL, PRISM, GLUED, HOUSES, THREE, BOOK, ring_web(TWELVE), *woven_webs(6, 10, 11)]
SMALL = [web for web in SMALL if math.prod(
    math.factorial(len(web.neighbours(place)) - 1) for place in web.places) < 5000]
WOVEN = woven_webs(8, 10, 12) + woven_webs(12, 12, 13)
# Webs that are no blocks, but have drawings.
NO_BLOCKS = [ONE, TWO, BOW, Web.of_ties(("a", "b"), ("b", "c"))]
house = Drawing(THREE, {"a": ("x", "y", "z"), "b": ("x", "z", "y"), "x": ("a", "b"), "y": ("a", "b"), "z": ("a", "b")})


def some_drawings(web, count, seed):
    """Some drawings of a web, by their numbers."""
    many = count_drawings(web)
    chance = random.Random(seed)
    return [drawing_at(web, index) for index in sorted({chance.randrange(many) for _ in range(count if many else 0)})]


def turned(row, first):
    at = row.index(first)
    return row[at:] + row[:at]


def slow_sides_round(drawing, a, b):
    """The sides at a, by the side of each neighbour."""
    sides = sides_at(drawing.web, a, b)
    row = [next((side for side in sides if one in side), ()) for one in drawing.round_at(a)]
    row = tuple(side for k, side in enumerate(row) if row[k - 1] != side)
    return turned(row, min(row))


def slow_flips(drawing):
    """All flips, as [7.2] tells them."""
    flips = {("mirror",)} if is_held(drawing.web) else set()
    for a, b in parting_pairs(drawing.web):
        row = slow_sides_round(drawing, a, b)
        flips |= {("turn", a, b, side) for side in row if side}
        if len(row) > 2:
            flips |= {("change", a, b, side, row[(k + 1) % len(row)]) for k, side in enumerate(row)}
    return tuple(sorted(flips))


def slow_flipped(drawing, flip):
    """What a flip does, told by lists of the neighbours by their sides."""
    web = drawing.web
    table = drawing.table
    if flip[0] == "mirror":
        return Drawing(web, {p: turned(near[::-1], min(near)) for p, near in table.items()})
    a, b, side = flip[1:4]
    for place, other in ((a, b), (b, a)):
        order = slow_sides_round(drawing, place, other)
        near = table[place]
        lists = {}
        for found in order:
            held = [one for one in near if one in found] if found else [other]
            while len(held) < len(near) and near[near.index(held[0]) - 1] in found:
                held = held[-1:] + held[:-1]
            lists[found] = held
        if flip[0] == "turn":
            lists[side] = lists[side][::-1]
        else:
            swap = {side: flip[4], flip[4]: side}
            order = [swap.get(found, found) for found in order]
        row = tuple(one for found in order for one in lists[found])
        table[place] = turned(row, min(row))
    if flip[0] == "turn":
        for place in side:
            table[place] = turned(table[place][::-1], min(table[place]))
    return Drawing(web, table)


def back_of(flip):
    return flip if flip[0] != "change" else flip[:3] + (flip[4], flip[3])


class Examples(Case):

    def test_examples(self):
        self.assertEqual([count_drawings(web) for web in (FOUR, KITE, WHEEL, HOUSES, THREE, RING)],
                         [2, 2, 2, 0, 2, 1])
        self.assertEqual([sorted(factors(KITE)), factors(FOUR), factors(HOUSES), len(list(each_drawing(KITE))),
                          is_mirrored(flat, flat.mirror)], [[1, 1, 2], (2,), (0,), 2, True])
        self.assertEqual(
            [sides_round(house, "a", "b"), sides_round(house, "b", "a"), len(flips_of(house)), flips_of(house)[0],
             flips_of(flat)],
            [(("x",), ("y",), ("z",)), (("x",), ("z",), ("y",)), 6, ("change", "a", "b", ("x",), ("y",)),
             (("mirror",),)])
        later = flipped(house, ("change", "a", "b", ("x",), ("y",)))
        self.assertEqual(
            [later.table["a"], later.table["b"], later == house.mirror,
             flipped(later, ("change", "a", "b", ("y",), ("x",))) == house,
             flipped(house, ("turn", "a", "b", ("z",))) == house],
            [("x", "z", "y"), ("x", "y", "z"), True, True, True])
        self.assertEqual(
            [drawing_at(THREE, number_of(house)) == house, after_flips(house, way_between(house, later)) == later,
             is_flip(house, ("mirror",)), is_flip(house, ("change", "a", "b", ("y",), ("x",)))],
            [True, True, False, False])


class Counted(Case):

    def test_walk_over_all_tables(self):
        for web in SMALL:
            slow = all_drawings(web)
            found = list(each_drawing(web))
            self.assertEqual([len(found), count_drawings(web)], [len(slow), len(slow)], web.ties)
            self.assertTrue(all(drawing in slow for drawing in found))
            self.assertEqual(len({drawing.lines for drawing in found}), len(slow))
            for k, drawing in enumerate(found):
                self.assertEqual(number_of(drawing), k)
                self.assertEqual(drawing_at(web, k), drawing)

    def test_factors(self):
        for web in SMALL + WOVEN + [CUBE, PETERSEN, every_full(7)]:
            tree = PartTree.of_web(web)
            wanted = []
            for k, (kind, _, _) in enumerate(tree):
                held = 2 if has_drawing(tree.part_web(k)) else 0
                wanted.append({"ring": 1, "held": held, "bundle": math.factorial(len(tree.sides(k)) - 1)}[kind])
            self.assertEqual(factors(web), tuple(wanted))
            self.assertEqual(count_drawings(web), math.prod(wanted))
            self.is_bool(has_drawing(web), count_drawings(web) > 0)

    def test_numbers_of_great_webs(self):
        for web in WOVEN:
            many = count_drawings(web)
            for index in {0, many // 3, many // 2, many - 1} if many else ():
                drawing = drawing_at(web, index)
                self.assertTrue(is_drawing(web, drawing.table))
                self.assertEqual([drawing.web, number_of(drawing)], [web, index])
            if many:
                self.assertTrue(0 <= number_of(drawing_of(web)) < many)

    def test_edges(self):
        triangle = ring_web(("a", "b", "c"))
        for ring in (triangle, ring_web(TWELVE)):
            self.assertEqual([factors(ring), count_drawings(ring), flips_of(drawing_of(triangle))], [(1,), 1, ()])
        self.assertEqual(list(each_drawing(HOUSES)), [])
        self.assertEqual(count_drawings(BOOK), 6)
        ten = Web.of_ties(*[(a, b) for a in "ab" for b in "cdefghijkl"])
        self.assertEqual([count_drawings(ten), count_drawings(ten.with_tie("a", "b"))], [362880, 3628800])
        last = drawing_at(ten.with_tie("a", "b"), 3628799)
        self.assertEqual(number_of(last), 3628799)
        first = []
        for drawing in each_drawing(ten.with_tie("a", "b")):
            first.append(drawing)
            if len(first) == 3:
                break
        self.assertEqual([number_of(drawing) for drawing in first], [0, 1, 2])

    def test_indices(self):
        for web, many in ((FOUR, 2), (HOUSES, 0), (BOOK, 6), (RING, 1)):
            for value in [many, many + 1, -1, True, False, str(many - 1), None, 10 ** 59, *WRONG, *OBJECTS]:
                if type(value) is not int or not 0 <= value < many:
                    self.refuses(InvalidNumber, drawing_at, web, value, value=value)
        self.assertEqual(drawing_at(FOUR, 1), drawing_at(FOUR, 0).mirror)


class Flips(Case):

    def drawings(self):
        for web in SMALL + [GLUED, WHEEL, CUBE]:
            yield from some_drawings(web, 3, 1)
        for web in WOVEN:
            yield from some_drawings(web, 2, 2)

    def test_sides_round(self):
        for drawing in self.drawings():
            for a, b in parting_pairs(drawing.web):
                row = sides_round(drawing, a, b)
                self.assertEqual(row, slow_sides_round(drawing, a, b))
                self.assertEqual(row[0], min(row))
                self.assertEqual(tuple(sorted(row)), sides_at(drawing.web, a, b))
                opposite = sides_round(drawing, b, a)
                self.assertEqual(opposite, row[:1] + row[:0:-1])

    def test_flips(self):
        for drawing in self.drawings():
            flips = flips_of(drawing)
            self.assertEqual(flips, slow_flips(drawing))
            for flip in flips[::1 + len(flips) // 6]:
                self.is_bool(is_flip(drawing, flip), True)
                behind = flipped(drawing, flip)
                self.assertEqual(behind, slow_flipped(drawing, flip))
                self.assertEqual(flipped(behind, back_of(flip)), drawing)
                self.assertEqual(after_flips(drawing, (flip, back_of(flip))), drawing)

    def test_flips_by_hand(self):
        book = Drawing.from_rims(("a", "x", "b"), ("a", "b", "y"), ("a", "y", "b", "z"), ("a", "z", "b", "x"))
        self.assertEqual(book.table["a"], ("b", "x", "z", "y"))
        self.assertEqual(sides_round(book, "a", "b"), ((), ("x",), ("z",), ("y",)))
        changed = flipped(book, ("change", "a", "b", ("y",), ()))
        self.assertEqual([changed.table["a"], changed.table["b"]], [("b", "y", "x", "z"), ("a", "z", "x", "y")])
        self.is_bool(is_flip(book, ("change", "a", "b", (), ("x",))), True)
        self.is_bool(is_flip(book, ("change", "a", "b", (), ("y",))), False)
        self.is_bool(is_flip(book, ("turn", "a", "b", ())), False)
        self.is_bool(is_flip(book, ("turn", "b", "a", ("x",))), False)
        # With two sides there is no change.
        fan = drawing_of(RING)
        self.assertEqual([flip[0] for flip in flips_of(fan)], ["turn"] * 4)
        self.assertEqual([flipped(fan, flip) for flip in flips_of(fan)], [fan] * 4)
        self.assertEqual(flips_of(drawing_of(ring_web(("a", "b", "c")))), ())

    def test_near_flips(self):
        for drawing in (house, flat, drawing_of(KITE), drawing_of(GLUED), drawing_of(RING)):
            flips = flips_of(drawing)
            for flip in flips:
                for value in bent(flip):
                    self.is_bool(is_flip(drawing, value), value in flips and type(value) is tuple)
                    if value not in flips:
                        self.refuses(InvalidFlip, flipped, drawing, value)
                        self.refuses(InvalidFlip, after_flips, drawing, (value,))

    def test_after_flips(self):
        self.assertEqual(after_flips(flat, ()), flat)
        self.assertEqual(after_flips(flat, (("mirror",),) * 3), flat.mirror)
        change = ("change", "a", "b", ("x",), ("y",))
        self.assertEqual(after_flips(house, (change,)), house.mirror)
        # The same change is no flip of the drawing behind it.
        self.refuses(InvalidFlip, after_flips, house, (change, change))
        for value in [[("mirror",)], ("mirror",), ((),), "mirror", (("mirror",), None), *WRONG, *OBJECTS]:
            if value != ():
                self.refuses(InvalidFlip, after_flips, flat, value)

    def test_ways(self):
        for web in SMALL[::3] + [WHEEL, GLUED, BOOK]:
            drawings = some_drawings(web, 4, 3)
            for one, other in itertools.product(drawings, repeat=2):
                self.leads(one, other)
        for web in WOVEN:
            drawings = some_drawings(web, 3, 4)
            for one, other in zip(drawings, drawings[1:] + drawings[:1]):
                self.leads(one, other)
            if drawings:
                self.leads(drawings[0], drawings[0].mirror)

    def test_ways_by_other_doors(self):
        # A held part that is not reached through its first door, and one with doors to both sides.
        first = full_web(tuple("abef")).without_tie("e", "f")
        later = full_web(tuple("cdef")).without_tie("e", "f").without_tie("c", "d")
        tail = Web.of_ties(("c", "z"), ("d", "z"))
        great = full_web(tuple("cduv")).without_tie("c", "d")
        for web in (first + later + tail, first + later + great, first + later + great.with_tie("c", "d")):
            for one, other in itertools.product(each_drawing(web), repeat=2):
                self.leads(one, other)

    def leads(self, one, other):
        way = way_between(one, other)
        self.assertIs(type(way), tuple)
        now = one
        for flip in way:
            self.assertIn(flip, slow_flips(now))
            now = slow_flipped(now, flip)
        self.assertEqual(now, other)
        self.assertEqual(after_flips(one, way), other)

    def test_all_are_reached(self):
        # [7.3]: by flips alone, each drawing is reached from the first one.
        for web in (KITE, GLUED, BOOK, FOUR, RING, PRISM):
            found = [drawing_at(web, 0)]
            for drawing in found:
                for flip in flips_of(drawing):
                    if flipped(drawing, flip) not in found:
                        found.append(flipped(drawing, flip))
            self.assertEqual(len(found), count_drawings(web))

    def test_mirrors_need_the_mirror(self):
        # [0.23]: without it, no flip leads from a drawing of a held web to its mirror.
        for web in held_webs():
            drawing = drawing_of(web)
            self.assertEqual(flips_of(drawing), (("mirror",),))
            self.assertNotEqual(drawing, drawing.mirror)
            self.assertEqual(way_between(drawing, drawing.mirror), (("mirror",),))
            self.assertEqual(way_between(drawing, drawing), ())

    def test_rims_of_two_drawings(self):
        # [0.23]: the rims of two drawings need not be of equal lengths.
        web = BOOK + Web.of_ties(("a", "w"), ("b", "v"), ("v", "w"))
        lengths = {tuple(sorted(map(len, drawing.rims))) for drawing in each_drawing(web)}
        self.assertGreater(len(lengths), 1)

    def test_mirrored(self):
        for drawing in self.drawings():
            self.is_bool(is_mirrored(drawing, drawing.mirror), True)
            self.is_bool(is_mirrored(drawing, drawing), drawing == drawing.mirror)
        self.is_bool(is_mirrored(drawing_of(RING), drawing_of(RING)), True)
        self.is_bool(is_mirrored(flat, flat), False)


class Wrong(Case):

    WITH_WEB = (factors, count_drawings)
    WITH_DRAWING = (number_of, flips_of)

    def first(self, web):
        return [drawing for drawing in each_drawing(web)]

    def test_wrong_webs(self):
        for value in not_webs():
            for call in (*self.WITH_WEB, self.first):
                self.refuses(InvalidWeb, call, value)
            self.refuses(InvalidWeb, drawing_at, value, None)
            each_drawing(value)
        for web in (*NO_BLOCKS, APART, Web(TWELVE, ())):
            for call in (*self.WITH_WEB, self.first):
                self.refuses(InvalidOperation, call, web)
            self.refuses(InvalidOperation, drawing_at, web, None)
            each_drawing(web)

    def test_wrong_drawings(self):
        no_block = [drawing_of(web) for web in NO_BLOCKS]
        for error, values in ((InvalidDrawing, [*not_drawings(), FLAT_TABLE]), (InvalidOperation, no_block)):
            for value in values:
                self.refuses_all(error, lambda drawing: sides_round(drawing, "zz", None), [value])
                for call in self.WITH_DRAWING:
                    self.refuses(error, call, value)
                for call in (is_flip, flipped, after_flips):
                    self.refuses(error, call, value, None)
                for call in (way_between, is_mirrored):
                    self.refuses(error, call, value, house)
                    self.refuses(error, call, house, value)
        for call in (way_between, is_mirrored):
            # A value that is no drawing comes before a web that is no block.
            self.refuses(InvalidDrawing, call, no_block[0], None)
            self.refuses(InvalidOperation, call, house, flat)
            self.refuses(InvalidOperation, call, flat, drawing_of(every_full(3)))

    def test_wrong_values(self):
        for value in [("mirror", "a"), ["mirror"], "mirror", ("turn",), ("change", "a", "b"), *WRONG, *OBJECTS]:
            for drawing in (house, flat):
                self.is_bool(is_flip(drawing, value), False)
                self.refuses(InvalidFlip, flipped, drawing, value)
        self.refuses(InvalidFlip, flipped, house, ("mirror",))

    def test_wrong_pairs(self):
        for value in ["d", *WRONG, *OBJECTS]:
            self.refuses(UnknownName, sides_round, house, value, "zz", word=value)
            self.refuses(UnknownName, sides_round, house, "a", value, word=value)
            self.refuses(UnknownName, sides_round, house, value, value, word=value)
        for a, b in (("a", "a"), ("x", "y"), ("a", "x")):
            self.refuses(InvalidOperation, sides_round, house, a, b)
        self.refuses(InvalidOperation, sides_round, flat, "a", "b")
        self.assertEqual(full_web(("a", "b", "c", "d")), FOUR)
