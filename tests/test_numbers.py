"""[7.1], [5.3]: numbers of drawings lead there and back, and trees of parts are judged as they are made."""

import itertools
import math

from flatwebs.base.drawings import Drawing, is_drawing
from flatwebs.base.webs import Web, full_web, ring_web
from flatwebs.draw.bars import has_drawing
from flatwebs.draw.counted import count_drawings, drawing_at, each_drawing, factors, number_of
from flatwebs.errors import InvalidNumber, InvalidPart
from flatwebs.tree.parts import PartTree, is_tree_of
from tests.samples import (
    CUBE, FOUR, GLUED, HOUSES, KITE, OCTA, PETERSEN, PRISM, SIX, THREE, TWELVE, TWENTY, WHEEL, Case, blocks_on,
    triangulated, woven_webs)

# Nine places and twenty-one ties, one held part.
STACK = Web.of_ties(*[tuple(pair) for pair in
                      "ab ac bc ad bd cd ae be de bf cf df eg bg dg fh ch dh ai ci di".split()])
HELD = [FOUR, WHEEL, PRISM, OCTA, CUBE, STACK, SIX.web, TWENTY.web, triangulated(12, 141).web, triangulated(10, 142).web]
RINGS = [ring_web(TWELVE[:many]) for many in range(3, 13)] + [ring_web(("d", "a", "c", "b"))]
# The drawings with the number 0 of some webs; all others follow from them.
FIRST = [
    (STACK, "a: b c i d e|b: a e g d f c|c: a b f h d i|d: a i c h f b g e|e: a d g b|f: b d h c|g: b e d|h: c f d|i: a c d"),
    (WHEEL, "a: b h d|b: a c h|c: b d h|d: a h c|h: a b c d"),
    (PRISM, "a: b c d|b: a e c|c: a b f|d: a f e|e: b d f|f: c e d"),
    (OCTA, "a: c e d f|b: c f d e|c: a f b e|d: a e b f|e: a c b d|f: a d b c"),
    (CUBE, "a: b c e|b: a f d|c: a d g|d: b h c|e: a g f|f: b e h|g: c h e|h: d f g"),
    (GLUED, "a: b c d e f|b: a f e d c|c: a b d|d: a c b|e: a b f|f: a e b"),
    (THREE, "a: x y z|b: x z y|x: a b|y: a b|z: a b"),
    # The first ring of this one parts all other places into two lots.
    (Web.of_ties(*[tuple(pair) for pair in "ab ac ad ae af ag bc be bf cd ce cf de dg eg".split()]),
     "a: b f c d g e|b: a e c f|c: a f b e d|d: a c e g|e: a g d c b|f: a b c|g: a d e"),
    (Web.of_ties(("a", "b"), ("a", "d"), ("a", "f"), ("b", "f"), ("b", "i"), ("c", "d"), ("c", "f"), ("c", "h"),
                 ("e", "g"), ("e", "i"), ("g", "h")),
     "a: b d f|b: a f i|c: d h f|d: a c|e: g i|f: a c b|g: e h|h: c g|i: b e")]


def bundle(many, tied):
    """Two places with so many more that are tied to both, and perhaps to one another."""
    web = Web.of_ties(*[(end, place) for end in "ab" for place in TWELVE[2:many + 2]])
    return web.with_tie("a", "b") if tied else web


BUNDLES = [bundle(many, tied) for many in range(3, 7) for tied in (False, True)]
MIXED = [KITE, GLUED, bundle(2, True), bundle(3, False) + Web.of_ties(("c", "d")),
         full_web(tuple("abcd")) + bundle(2, False).renamed(dict(zip("abcd", "abxy"))),
         PRISM + Web.of_ties(("a", "x"), ("b", "x"), ("a", "y"), ("b", "y"), ("x", "y")),
         PRISM.without_tie("a", "b") + Web.of_ties(("a", "x"), ("x", "y"), ("b", "y")),
         *[web for many in (6, 8, 10, 12) for web in woven_webs(many, 8, 143 + many) if has_drawing(web)]]


class Numbers(Case):

    def check(self, web, many):
        """All drawings with numbers below a limit, there and back."""
        count = count_drawings(web)
        self.assertEqual(count, math.prod(factors(web)))
        seen = {}
        for index in range(min(count, many)):
            drawing = drawing_at(web, index)
            self.assertIs(type(drawing), Drawing)
            self.assertEqual(drawing.web, web)
            self.assertEqual(Drawing(web, drawing.table), drawing)
            self.assertEqual(number_of(drawing), index)
            self.assertEqual(number_of(Drawing.from_lines(*drawing.lines[::-1])), index)
            seen[drawing.lines] = index
        self.assertEqual(len(seen), min(count, many))
        rows = [drawing.lines for drawing in itertools.islice(each_drawing(web), many)]
        self.assertEqual(rows, list(seen))
        for index in (-1, count, count + 1, True, None, str(index)):
            self.refuses(InvalidNumber, drawing_at, web, index, value=index)

    def test_held_parts(self):
        for web in HELD:
            self.assertEqual(factors(web), (2,))
            self.check(web, 2)

    def test_rings(self):
        for web in RINGS:
            self.assertEqual(factors(web), (1,))
            self.check(web, 1)

    def test_bundles(self):
        for web in BUNDLES:
            many = len(web) - 2 + web.is_tied("a", "b")
            self.assertEqual(count_drawings(web), math.factorial(many - 1))
            self.check(web, 120)
        for web in (bundle(7, True), bundle(10, False)):
            for index in range(0, count_drawings(web), count_drawings(web) // 40):
                self.assertEqual(number_of(drawing_at(web, index)), index)
            self.assertEqual(number_of(drawing_at(web, count_drawings(web) - 1)), count_drawings(web) - 1)

    def test_mixed_ones(self):
        for web in MIXED + blocks_on(4) + blocks_on(5)[::4]:
            self.check(web, 60)

    def test_mirrors_and_turned_parts(self):
        for web in [*HELD, *BUNDLES, *MIXED]:
            for drawing in itertools.islice(each_drawing(web), 5):
                number = number_of(drawing.mirror)
                self.assertEqual(drawing_at(web, number), drawing.mirror)
                names = dict(zip(web.places, web.places[1:] + web.places[:1]))
                other = drawing.renamed(names)
                self.assertEqual(drawing_at(other.web, number_of(other)), other)

    def test_no_drawings(self):
        for web in (HOUSES, PETERSEN, full_web(tuple("abcde")), HOUSES + Web.of_ties(("a", "x"), ("d", "x"))):
            self.assertEqual([count_drawings(web), list(each_drawing(web))], [0, []])
            self.assertIn(0, factors(web))
            self.refuses(InvalidNumber, drawing_at, web, 0, value=0)

    def test_same_numbers(self):
        for web, lines in FIRST:
            self.assertEqual(drawing_at(web, 0).lines, tuple(lines.split("|")))


class Trees(Case):

    def test_trees_of_webs(self):
        for web in [*HELD, *RINGS, *BUNDLES, *MIXED, HOUSES, PETERSEN, *blocks_on(4)]:
            tree = PartTree.of_web(web)
            self.assertIs(type(tree), PartTree)
            self.assertEqual(tree.joined, web)
            again = PartTree(tree.parts, tree.doors)
            self.assertEqual([again, again.joined, again.parted_pairs], [tree, web, tree.parted_pairs])
            self.assertEqual([str(again), list(again)], [str(tree), list(tree)])
            self.is_bool(is_tree_of(web, (tree.parts, tree.doors)), True)
            for index in range(len(tree)):
                self.assertEqual([tree.sides(index), tree.beside(index), tree.part_web(index)],
                                 [again.sides(index), again.beside(index), again.part_web(index)])
            self.refuses(InvalidPart, PartTree, tree.parts, ((("a", "b"), 0, 99),))
            self.refuses(InvalidPart, PartTree, tree, ())
            self.refuses(InvalidPart, PartTree, web, ())

    def test_tables_of_numbers(self):
        for web in MIXED:
            for drawing in itertools.islice(each_drawing(web), 3):
                self.is_bool(is_drawing(web, drawing.table), True)
