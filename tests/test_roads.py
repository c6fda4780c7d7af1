"""[0.13] to [0.22]: over the whole program, all that is read off a drawing leads back to it."""

import itertools
import unittest

from flatwebs.base.drawings import Drawing
from flatwebs.base.webs import ring_web
from flatwebs.draw.bars import bar_of, drawing_of, is_bar
from flatwebs.draw.counted import after_flips, count_drawings, drawing_at, each_drawing, number_of, way_between
from flatwebs.dye.colours import (
    colours_by, dyes_of, four_colours, is_dyes, is_three_colours, odd_place, rim_colours, three_colours)
from flatwebs.grid.corners import corners, drawing_by_grid
from flatwebs.grid.springs import bend_of, drawing_shown, is_flat, rest_of, rim_corners, springs
from flatwebs.grid.trees import each_three_trees, least_trees, read_trees, three_trees, write_trees
from flatwebs.outer.webs import is_outer_drawing, outer_drawings, outer_ring, reason_against
from flatwebs.rank.beams import beams_of, drawing_of_beams, lines_of_beams, beams_of_lines, mirrored_beams
from flatwebs.rank.ears import ears_by_order, order_by_ears, web_of_ears
from flatwebs.rank.orders import order_from, stop_for
from flatwebs.rims.covers import cover_by, cover_of, drawings_by
from flatwebs.rims.duals import dual_of, names_back
from flatwebs.rims.partings import pairs_by_rims
from flatwebs.tree.partings import is_held, parting_pairs
from flatwebs.tree.parts import PartTree
from flatwebs.use.bench import Bench
from tests.samples import (
    CUBE, FOUR, GLUED, HOUSES, KITE, OCTA, PETERSEN, PRISM, SIX, THREE, TWELVE, TWENTY, WHEEL, blocks_on, triangulated,
    woven_webs)

BLOCKS = [FOUR, KITE, WHEEL, PRISM, GLUED, OCTA, CUBE, THREE, HOUSES, PETERSEN, SIX.web, TWENTY.web, ring_web(TWELVE),
          triangulated(8, 12).web, triangulated(10, 13).web, *blocks_on(3, 4), *blocks_on(5)[::7],
          *woven_webs(7, 6, 131), *woven_webs(10, 4, 132), *woven_webs(12, 3, 133)]


class Roads(unittest.TestCase):

    def test_drawing_or_bar(self):
        for web in BLOCKS:
            drawing, bar = drawing_of(web), bar_of(web)
            self.assertEqual(drawing is None, bar is not None)
            self.assertEqual(drawing is None, cover_of(web) is None)
            self.assertEqual(drawing is None, count_drawings(web) == 0)
            self.assertTrue(bar is None or is_bar(web, bar))
            self.assertEqual(PartTree.of_web(web).parted_pairs, parting_pairs(web))
            self.assertEqual(outer_ring(web) is None, reason_against(web) is not None)

    def test_one_drawing_on_all_roads(self):
        for web in BLOCKS:
            for drawing in itertools.islice(each_drawing(web), 2):
                self.assertEqual(drawing_at(web, number_of(drawing)), drawing)
                self.assertIn(drawing, drawings_by(web, cover_by(drawing)))
                self.assertEqual(Drawing.from_rims(*drawing.rims), drawing)
                self.assertEqual(Drawing.from_lines(*drawing.lines), drawing)
                self.assertEqual(pairs_by_rims(drawing), parting_pairs(web))
                self.assertEqual(after_flips(drawing, way_between(drawing, drawing.mirror)), drawing.mirror)
                self.by_beams(drawing)
                if is_held(web):
                    self.by_springs_and_dual(drawing)
                if drawing.is_triangulated:
                    self.by_corners_and_colours(drawing)
                bench = Bench(drawing)
                bench.redraw(0)
                bench.undo()
                self.assertEqual(list(bench), list(drawing.lines))
                if is_outer_drawing(drawing):
                    self.assertIn(drawing, outer_drawings(web))

    def by_beams(self, drawing):
        web = drawing.web
        for a, b in web.ties[::3]:
            self.assertIsNone(stop_for(web, a, b))
            order = order_from(web, b, a)
            self.assertEqual(web_of_ears(ears_by_order(web, order)), web)
            for one in (order, order_by_ears(ears_by_order(web, order), a, b)):
                beams = beams_of(drawing, one)
                self.assertEqual(drawing_of_beams(web, beams), drawing)
                self.assertEqual(drawing_of_beams(web, mirrored_beams(web, beams)), drawing.mirror)
                self.assertEqual(beams_of_lines(web, *lines_of_beams(web, beams)[::-1]), beams)

    def by_springs_and_dual(self, drawing):
        web = drawing.web
        for rim in drawing.rims[::4]:
            strengths = {tie: 1 + 17 * k % 100 for k, tie in enumerate(web.ties)}
            for one in (None, strengths):
                picture = springs(drawing, rim, strengths=one)
                self.assertTrue(is_flat(web, picture))
                self.assertEqual(drawing_shown(web, picture), drawing)
                self.assertEqual(rest_of(web, rim_corners(drawing, rim), strengths=one), picture)
                self.assertEqual([bend_of(picture, other) for other in drawing.rims].count(-1), len(drawing) - 1)
        if len(drawing) <= 12:
            self.assertEqual(dual_of(dual_of(drawing)).renamed(names_back(drawing)), drawing)

    def by_corners_and_colours(self, drawing):
        web = drawing.web
        for rim in drawing.rims[::5]:
            for trees in (three_trees(drawing, rim), least_trees(drawing, rim), *itertools.islice(
                    each_three_trees(drawing, rim), 2)):
                grid = corners(drawing, rim, read_trees(write_trees(trees)))
                self.assertEqual(drawing_by_grid(web, grid), drawing)
                self.assertEqual(drawing_shown(web, {place: ((x, 1), (y, 1)) for place, (x, y) in grid.items()}), drawing)
        colours = four_colours(web)
        dyes = dyes_of(drawing, colours)
        self.assertTrue(is_dyes(drawing, dyes))
        self.assertEqual(colours_by(drawing, dyes, web.places[-1], colours[web.places[-1]]), colours)
        even = odd_place(drawing) is None
        self.assertEqual([rim_colours(drawing) is not None, three_colours(drawing) is not None], [even, even])
        self.assertEqual(is_three_colours(drawing, three_colours(drawing)), even)


if __name__ == "__main__":
    unittest.main()
