"""The interface of the document: its names stand in their modules, with their arguments."""

import importlib
import inspect
import unittest

from flatwebs.base.drawings import Drawing
from flatwebs.base.webs import Web
from flatwebs.tree.parts import PartTree
from flatwebs.use.bench import Bench

NAMES = """
flatwebs.base.words
    is_integer(value)
    is_count(value)
    is_name(value)
    are_names(value)
    is_naming(names, value)
    is_fraction(value)
    fraction(top, bottom)
flatwebs.base.webs
    class Web(places, ties)
    full_web(places)
    ring_web(ring)
flatwebs.base.rings
    is_route(web, value)
    is_ring(web, value)
    plain_ring(ring)
    is_plain(value)
    ring_ties(ring)
    route_ties(route)
    each_ring(web)
    count_rings(web)
flatwebs.base.drawings
    is_table(web, value)
    rims_of(web, table)
    lack_of(web, table)
    is_drawing(web, value)
    class Drawing(web, table)
flatwebs.tree.partings
    cut_places(web)
    all_blocks(web)
    block_with(web, a, b)
    block_web(web, block)
    is_parting(web, value)
    is_least_parting(web, value)
    least_partings(web)
    parting_pairs(web)
    is_held(web)
    sides_at(web, a, b)
flatwebs.tree.parts
    class PartTree(parts, doors)
    is_tree_of(web, value)
flatwebs.draw.bars
    drawing_of(web)
    has_drawing(web)
    bar_of(web)
    is_bar(web, value)
    bar_ties(web, bar)
    is_tight(web)
    keeping_paper(web)
    is_keeping_paper(web, value)
    minor_bar(web)
    is_minor_bar(web, value)
flatwebs.draw.counted
    factors(web)
    count_drawings(web)
    drawing_at(web, index)
    number_of(drawing)
    each_drawing(web)
    sides_round(drawing, a, b)
    is_flip(drawing, value)
    flips_of(drawing)
    flipped(drawing, flip)
    after_flips(drawing, flips)
    way_between(one, other)
    is_mirrored(one, other)
flatwebs.rims.partings
    rims_with(drawing, *places)
    are_parting(drawing, a, b)
    pairs_by_rims(drawing)
    meeting(drawing, one, other)
    loose_meeting(drawing)
    is_noose(drawing, value)
    sides_of(drawing, noose)
    noose_through(drawing, places)
    parting_noose(drawing)
flatwebs.rims.duals
    rim_names(drawing)
    dual_of(drawing)
    dual_ties(drawing)
    names_back(drawing)
    is_ring_set(web, value)
    is_least_cut(web, value)
    is_joining_tree(web, value)
    cut_of_ring(drawing, ring)
    ring_of_cut(drawing, cut)
    ring_sides(drawing, ring)
    within_ring(drawing, ring)
    is_dual_by(drawing, other, value)
    dual_naming(drawing, other)
flatwebs.rims.covers
    is_cover(web, value)
    cover_of(web)
    cover_by(drawing)
    drawings_by(web, cover)
    is_double(web, value)
    lots_of_rings(web, rings)
    rounds_at(web, rings, place)
    sum_of_rings(web, rings)
    sides_of_ring(web, cover, ring)
    places_beside(web, cover, ring)
flatwebs.rank.orders
    order_from(web, a, b)
    is_order(web, a, b, value)
    stop_for(web, a, b)
    is_stop(web, a, b, value)
    each_order(web, a, b)
    count_orders(web, a, b)
flatwebs.rank.ears
    ears_of(web)
    is_ears(web, value)
    ears_with(web, a, b)
    web_of_ears(ears)
    order_by_ears(ears, a, b)
    ears_by_order(web, order)
flatwebs.rank.beams
    is_beams(web, value)
    drawing_of_beams(web, beams)
    beams_of(drawing, order)
    are_beams_of(drawing, order, value)
    mirrored_beams(web, beams)
    order_of_beams(web, beams)
    beams_of_lines(web, *lines)
    lines_of_beams(web, beams)
flatwebs.grid.trees
    is_three_trees(drawing, rim, value)
    three_trees(drawing, rim)
    each_three_trees(drawing, rim)
    is_pointing(drawing, rim, value)
    pointing_of(drawing, rim, trees)
    trees_by(drawing, rim, pointing)
    ways_of(drawing, rim, trees, place)
    turnable(drawing, rim, trees)
    turned_ring(drawing, rim, trees, ring)
    least_trees(drawing, rim)
    way_to_least(drawing, rim, trees)
    write_trees(trees)
    read_trees(text)
flatwebs.grid.corners
    corners(drawing, rim, trees)
    is_grid(web, value)
    drawing_by_grid(web, grid)
flatwebs.grid.springs
    is_point(value)
    is_picture(web, value)
    is_strengths(web, value)
    is_corners(web, value)
    rest_of(web, corners, *, strengths=None)
    is_rest(web, corners, value, *, strengths=None)
    energy(web, picture, *, strengths=None)
    moved(web, picture, other)
    is_flat(web, picture)
    bend_of(picture, ring)
    double_area(picture, ring)
    drawing_shown(web, picture)
    rim_corners(drawing, rim)
    springs(drawing, rim, *, strengths=None)
flatwebs.dye.colours
    rim_colours(drawing)
    is_rim_colours(drawing, value)
    odd_place(drawing)
    three_colours(drawing)
    is_three_colours(drawing, value)
    four_colours(web)
    is_four_colours(web, value)
    is_dyes(drawing, value)
    dyes_of(drawing, colours)
    colours_by(drawing, dyes, place, number)
    choice_by_rim(drawing, rim, a, b, lists)
    choice_of(web, lists)
    is_choice(web, lists, value)
flatwebs.outer.webs
    do_cross(ring, one, other)
    outer_ring(web)
    is_outer_ring(web, value)
    reason_against(web)
    is_reason(web, value)
    is_outer_web(web)
    drawing_by_ring(web, ring)
    outer_drawings(web)
    is_outer_drawing(value)
    inner_tree(drawing)
    is_full(web)
    filled_web(web)
    count_full(ring)
    each_full(ring)
    is_outer_choice(web, lists, value)
    outer_choice(web, lists)
flatwebs.use.bench
    is_pledge(value)
    split_at(drawing, place, name, first, last)
    together_at(drawing, a, b)
    class Bench(drawing)
"""
CONSTANTS = {
    "flatwebs.base.words": {"MAX_LETTERS": 8, "MAX_FIGURES": 60}, "flatwebs.base.webs": {"MAX_PLACES": 12, "MAX_TIES": 40},
    "flatwebs.rims.partings": {"MAX_NOOSE": 4}, "flatwebs.rims.duals": {"MAX_RIMS": 12},
    "flatwebs.rank.beams": {"MAX_REACH": 1000}, "flatwebs.grid.springs": {"MAX_STRENGTH": 100, "MAX_CORNER": 1000},
    "flatwebs.dye.colours": {"FOUR": 4, "LIST": 5, "MAX_LIST": 20}, "flatwebs.use.bench": {"MAX_PLEDGES": 10}}
METHODS = {
    Web: ["from_lines(*lines)", "of_ties(*ties)", "neighbours(place)", "common(a, b)", "is_tied(a, b)", "with_tie(a, b)",
          "without_tie(a, b)", "with_place(name)", "without_places(places)", "drawn_together(a, b)", "renamed(names)"],
    Drawing: ["from_lines(*lines)", "from_rims(*rims)", "round_at(place)", "behind(place, neighbour)",
              "rim_along(place, neighbour)", "rims_round(place)", "renamed(names)", "tied_within(a, b, rim)",
              "without_tie(a, b)"],
    PartTree: ["of_web(web)", "sides(index)", "part_web(index)", "beside(index)", "part_with(a, b)", "parts_at(place)",
               "renamed(names)"],
    Bench: ["tie(a, b, rim)", "strike(a, b)", "split(place, name, first, last)", "merge(a, b)", "rename(names)", "turn()",
            "flip(flip)", "redraw(number)", "demand(pledge)", "waive(pledge)", "undo(*, many=1)", "redo(*, many=1)",
            "trial()", "during(call)", "twin()"]}
PROPERTIES = {
    Web: ["places", "ties", "lines", "lots", "hangs", "is_block"],
    Drawing: ["web", "table", "rims", "lines", "mirror", "is_triangulated"],
    PartTree: ["parts", "doors", "joined", "parted_pairs"], Bench: ["drawing", "web", "pledges", "changes"]}
OPERATORS = {
    Web: ["__add__", "__sub__", "__invert__"], Drawing: [], PartTree: ["__getitem__"], Bench: []}
ALL_HAVE = ["__contains__", "__len__", "__iter__", "__eq__", "__str__"]


def told(name, called):
    """A function with its parameters, as the document tells them."""
    return f"{name}{inspect.signature(called)}"


class Interface(unittest.TestCase):

    def test_functions_and_classes(self):
        module = None
        for line in NAMES.strip().split("\n"):
            if not line.startswith(" "):
                module = importlib.import_module(line)
                continue
            wanted = line.strip().removeprefix("class ")
            name = wanted.split("(")[0]
            found = vars(module)[name]
            self.assertEqual(inspect.isclass(found), line.strip().startswith("class "))
            self.assertEqual(told(name, found), wanted)
            self.assertEqual(found.__module__, module.__name__)

    def test_constants(self):
        for name, constants in CONSTANTS.items():
            for word, value in constants.items():
                self.assertEqual(vars(importlib.import_module(name))[word], value)

    def test_methods(self):
        for kind, methods in METHODS.items():
            for wanted in methods:
                name = wanted.split("(")[0]
                self.assertIn(name, vars(kind))
                called = inspect.signature(getattr(kind, name))
                if not isinstance(vars(kind)[name], classmethod):
                    rows = list(called.parameters.values())
                    self.assertEqual(rows[0].name, "self")
                    called = called.replace(parameters=rows[1:])
                self.assertEqual(f"{name}{called}", wanted)
            for name in PROPERTIES[kind]:
                self.assertIsInstance(vars(kind)[name], property)
            for name in OPERATORS[kind] + ALL_HAVE:
                self.assertIn(name, vars(kind))


if __name__ == "__main__":
    unittest.main()
