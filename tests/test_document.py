"""The examples of the document, as they are told there, one behind the other."""

import importlib
import unittest

from flatwebs import errors
from flatwebs.base.drawings import Drawing
from flatwebs.base.webs import Web

WEBS = """
FOUR = Web.from_lines("tie a b", "tie a c", "tie a d", "tie b c", "tie b d", "tie c d")
KITE = Web.from_lines("tie a b", "tie a c", "tie b c", "tie b d", "tie c d")
WHEEL = Web.from_lines("tie a b", "tie b c", "tie c d", "tie a d", "tie a h", "tie b h", "tie c h", "tie d h")
PRISM = Web.from_lines("tie a b", "tie a c", "tie b c", "tie a d", "tie b e", "tie c f", "tie d e", "tie d f", "tie e f")
GLUED = Web.from_lines("tie a b", "tie a c", "tie a d", "tie b c", "tie b d", "tie c d", "tie a e", "tie a f", "tie b e", "tie b f", "tie e f")
HOUSES = Web.from_lines("tie a d", "tie a e", "tie a f", "tie b d", "tie b e", "tie b f", "tie c d", "tie c e", "tie c f")
"""
EXAMPLES = """
# flatwebs.base.words
>>> [is_integer(-7), is_count(True), is_name("ab1"), are_names(()), are_names(("b", "a", "b")), is_naming(("a", "b"), {"a": "b", "b": "a"})]
[True, False, False, True, True, True]
>>> [fraction(6, -4), fraction(0, 9), is_fraction((2, 4)), is_fraction((-3, 2))]
[(-3, 2), (0, 1), False, True]
# flatwebs.base.webs
>>> [str(WHEEL), WHEEL.places, WHEEL.neighbours("a"), PRISM.common("a", "b"), GLUED.is_block, (GLUED - ("a", "b")).lots]
['web of 5 places, 8 ties', ('a', 'b', 'c', 'd', 'h'), ('b', 'd', 'h'), ('c',), True, (('c', 'd'), ('e', 'f'))]
>>> [PRISM.drawn_together("a", "d").places, len(PRISM.drawn_together("a", "b").ties), (~WHEEL).lines, (WHEEL + GLUED).hangs]
[('a', 'b', 'c', 'e', 'f'), 7, ('place h', 'tie a c', 'tie b d'), True]
>>> [("a", "c") in WHEEL, "h" in WHEEL, list(full_web(("p", "q", "r"))), ring_web(("b", "a", "c")) == full_web(("a", "b", "c")), Web.of_ties(("a", "b")).is_block]
[False, True, [('p', 'q'), ('p', 'r'), ('q', 'r')], True, False]
# flatwebs.base.rings
>>> [plain_ring(("c", "d", "a", "b")), is_plain(("a", "c", "b")), is_ring(WHEEL, ("b", "h", "a")), is_route(WHEEL, ("a", "h", "c", "b")), ring_ties(("b", "c", "a"))]
[('a', 'b', 'c', 'd'), False, True, True, (('a', 'b'), ('a', 'c'), ('b', 'c'))]
>>> [list(each_ring(WHEEL))[:3], count_rings(PRISM), count_rings(WHEEL), route_ties(("c", "a", "b"))]
[[('a', 'b', 'c', 'd'), ('a', 'b', 'c', 'd', 'h'), ('a', 'b', 'c', 'h')], 14, 13, (('a', 'b'), ('a', 'c'))]
# flatwebs.base.drawings
>>> flat = Drawing(FOUR, {"a": ("b", "d", "c"), "b": ("a", "c", "d"), "c": ("a", "d", "b"), "d": ("a", "b", "c")})
>>> [flat.rims, flat.behind("a", "d"), flat.rim_along("b", "a"), flat.rims_round("a"), str(flat), flat.is_triangulated]
[(('a', 'b', 'c'), ('a', 'c', 'd'), ('a', 'd', 'b'), ('b', 'd', 'c')), 'c', ('a', 'd', 'b'), (('a', 'd', 'b'), ('a', 'c', 'd'), ('a', 'b', 'c')), 'drawing of 4 places, 6 ties, 4 rims', True]
>>> [flat.mirror.lines, flat.without_tie("a", "b").rims, Drawing.from_rims(("b", "c", "a"), ("c", "d", "a"), ("b", "a", "d"), ("b", "d", "c")) == flat]
[('a: b c d', 'b: a d c', 'c: a b d', 'd: a c b'), (('a', 'c', 'd'), ('a', 'd', 'b', 'c'), ('b', 'd', 'c')), True]
>>> [lack_of(FOUR, {"a": ("b", "c", "d"), "b": ("a", "c", "d"), "c": ("a", "b", "d"), "d": ("a", "b", "c")}), ("b", "c", "a") in flat, ("a", "b", "c") in flat]
[2, False, True]
# flatwebs.tree.partings
>>> BOW = ring_web(("a", "b", "c")) + Web.of_ties(("c", "d"), ("c", "e"), ("d", "e"), ("e", "f"))
>>> [cut_places(BOW), all_blocks(BOW), block_with(BOW, "e", "d"), str(block_web(BOW, ("e", "f"))), least_partings(BOW)]
[('c', 'e'), (('a', 'b', 'c'), ('c', 'd', 'e'), ('e', 'f')), ('c', 'd', 'e'), 'web of 2 places, 1 ties', (('c',), ('e',))]
>>> GLUED = full_web(("a", "b", "c", "d")) + full_web(("a", "b", "e", "f"))
>>> [parting_pairs(GLUED), sides_at(GLUED, "a", "b"), parting_pairs(KITE), sides_at(KITE, "c", "b"), least_partings(WHEEL), is_held(WHEEL), is_parting(WHEEL, ("a", "c")), is_least_parting(GLUED, ("a", "b", "c"))]
[(('a', 'b'),), ((), ('c', 'd'), ('e', 'f')), (('b', 'c'),), ((), ('a',), ('d',)), (('a', 'c', 'h'), ('b', 'd', 'h')), True, False, False]
# flatwebs.tree.parts
>>> GLUED = full_web(("a", "b", "c", "d")) + full_web(("a", "b", "e", "f"))
>>> glued = PartTree.of_web(GLUED)
>>> [str(glued), glued[0], glued[1][:2], glued.doors, glued.part_with("e", "b"), glued.parted_pairs, len(PartTree.of_web(WHEEL))]
['tree of 3 parts, 2 doors', ('bundle', ('a', 'b'), (('a', 'b'),)), ('held', ('a', 'b', 'c', 'd')), ((('a', 'b'), 0, 1), (('a', 'b'), 0, 2)), 2, (('a', 'b'),), 1]
>>> pan = PartTree.of_web(ring_web(("a", "b", "c", "d", "e")).with_tie("a", "c"))
>>> [[part[:2] for part in pan], pan.sides(0), pan.beside(1), pan.parted_pairs]
[[('ring', ('a', 'b', 'c')), ('bundle', ('a', 'c')), ('ring', ('a', 'c', 'd', 'e'))], (('a', 'b'), ('a', 'c'), ('b', 'c')), (0, 2), (('a', 'c'), ('a', 'd'), ('c', 'e'))]
# flatwebs.draw.bars
>>> [str(drawing_of(FOUR)), len(drawing_of(KITE)), drawing_of(HOUSES), bar_of(WHEEL), has_drawing(WHEEL)]
['drawing of 4 places, 6 ties, 4 rims', 3, None, None, True]
>>> bar = bar_of(HOUSES)
>>> [bar[:2], bar[2][:2], bar_ties(HOUSES, bar) == HOUSES.ties, is_tight(HOUSES), is_tight(FOUR), minor_bar(HOUSES)[1][0]]
[('three', (('a', 'b', 'c'), ('d', 'e', 'f'))), (('a', 'd'), ('a', 'e')), True, True, False, (('a',), ('b',), ('c',))]
>>> kept, bars = keeping_paper(HOUSES)
>>> [len(kept), len(bars), keeping_paper(KITE) == (KITE.ties, {}), is_minor_bar(FOUR, ("five", (("a",), ("b",), ("c",), ("d",))))]
[8, 1, True, False]
# flatwebs.draw.counted
>>> THREE = Web.of_ties(("a", "x"), ("a", "y"), ("a", "z"), ("b", "x"), ("b", "y"), ("b", "z"))
>>> [count_drawings(web) for web in (FOUR, KITE, WHEEL, HOUSES, THREE, ring_web(("a", "b", "c", "d")))]
[2, 2, 2, 0, 2, 1]
>>> [sorted(factors(KITE)), factors(FOUR), factors(HOUSES), len(list(each_drawing(KITE))), is_mirrored(flat, flat.mirror)]
[[1, 1, 2], (2,), (0,), 2, True]
>>> house = Drawing(THREE, {"a": ("x", "y", "z"), "b": ("x", "z", "y"), "x": ("a", "b"), "y": ("a", "b"), "z": ("a", "b")})
>>> [sides_round(house, "a", "b"), sides_round(house, "b", "a"), len(flips_of(house)), flips_of(house)[0], flips_of(flat)]
[(('x',), ('y',), ('z',)), (('x',), ('z',), ('y',)), 6, ('change', 'a', 'b', ('x',), ('y',)), (('mirror',),)]
>>> later = flipped(house, ("change", "a", "b", ("x",), ("y",)))
>>> [later.table["a"], later.table["b"], later == house.mirror, flipped(later, ("change", "a", "b", ("y",), ("x",))) == house, flipped(house, ("turn", "a", "b", ("z",))) == house]
[('x', 'z', 'y'), ('x', 'y', 'z'), True, True, True]
>>> [drawing_at(THREE, number_of(house)) == house, after_flips(house, way_between(house, later)) == later, is_flip(house, ("mirror",)), is_flip(house, ("change", "a", "b", ("y",), ("x",)))]
[True, True, False, False]
# flatwebs.rims.partings
>>> kite = flat.without_tie("a", "b")
>>> [rims_with(kite, "a"), rims_with(kite, "c", "d"), are_parting(kite, "c", "d"), pairs_by_rims(kite), pairs_by_rims(flat)]
[(('a', 'c', 'd'), ('a', 'd', 'b', 'c')), (('a', 'c', 'd'), ('a', 'd', 'b', 'c'), ('b', 'd', 'c')), True, (('c', 'd'),), ()]
>>> [meeting(kite, ("a", "c", "d"), ("b", "d", "c")), meeting(kite, ("a", "c", "d"), ("a", "d", "b", "c")), loose_meeting(flat), parting_noose(flat)]
[('tie', 'c', 'd'), ('places', 'a', 'c', 'd'), None, None]
>>> [sides_of(kite, (("c", "d"), (("a", "c", "d"), ("a", "d", "b", "c")))), sides_of(kite, (("c", "d"), (("a", "c", "d"), ("b", "d", "c")))), noose_through(kite, ("a", "b"))]
[(('a',), ('b',)), (('a', 'b'), ()), None]
# flatwebs.rims.duals
>>> flat = Drawing(FOUR, {"a": ("b", "d", "c"), "b": ("a", "c", "d"), "c": ("a", "d", "b"), "d": ("a", "b", "c")})
>>> [rim_names(flat)["rc"], dual_of(flat).lines, names_back(flat)]
[('a', 'd', 'b'), ('ra: rb rc rd', 'rb: ra rd rc', 'rc: ra rb rd', 'rd: ra rc rb'), {'ra': 'c', 'rb': 'a', 'rc': 'b', 'rd': 'd'}]
>>> [dual_of(dual_of(flat)).renamed(names_back(flat)) == flat, dual_ties(flat)[("a", "b")], cut_of_ring(flat, ("a", "b", "c")), ring_of_cut(flat, (("ra", "rb"), ("ra", "rc"), ("ra", "rd")))]
[True, ('ra', 'rc'), (('ra', 'rb'), ('ra', 'rc'), ('ra', 'rd')), ('a', 'b', 'c')]
>>> [ring_sides(flat, ("c", "b", "a"))[0], within_ring(flat, ("c", "b", "a")), is_least_cut(FOUR, (("a", "b"), ("a", "c"), ("a", "d"))), is_joining_tree(FOUR, (("a", "b"), ("b", "c"), ("c", "d")))]
[(('a', 'c', 'd'), ('a', 'd', 'b'), ('b', 'd', 'c')), (('d',), ()), True, True]
>>> [is_dual_by(flat, dual_of(flat), {"ra": "ra", "rb": "rb", "rc": "rc", "rd": "rd"}), dual_naming(flat, flat) is None, is_ring_set(FOUR, (("a", "b"), ("a", "c"), ("b", "d"), ("c", "d")))]
[True, False, True]
# flatwebs.rims.covers
>>> [cover_of(KITE), cover_of(HOUSES), cover_of(ring_web(("a", "b", "c"))), is_cover(FOUR, (("a", "b", "c"), ("a", "b", "d"), ("a", "c", "d"), ("b", "c", "d")))]
[(('a', 'b', 'c'), ('a', 'b', 'd', 'c'), ('b', 'c', 'd')), None, (('a', 'b', 'c'), ('a', 'b', 'c')), True]
>>> three = drawings_by(KITE, cover_of(KITE))
>>> [len(three), three[0].lines, three[1] == three[0].mirror, cover_by(three[1]) == cover_of(KITE), sum_of_rings(KITE, (("a", "b", "c"), ("b", "c", "d")))]
[2, ('a: b c', 'b: a c d', 'c: a d b', 'd: b c'), True, True, (('a', 'b'), ('a', 'c'), ('b', 'd'), ('c', 'd'))]
>>> [sides_of_ring(WHEEL, cover_of(WHEEL), ("a", "b", "c", "h")), places_beside(WHEEL, cover_of(WHEEL), ("a", "b", "c", "h")), places_beside(WHEEL, cover_of(WHEEL), ("a", "b", "c", "d"))]
[((0, 2, 4), (1, 3)), (('d',), ()), ((), ('h',))]
# flatwebs.rank.orders
>>> [order_from(PRISM, "a", "b") is None, is_order(PRISM, "a", "f", ("a", "b", "c", "d", "e", "f")), is_order(PRISM, "a", "f", ("a", "e", "b", "c", "d", "f")), count_orders(WHEEL, "a", "c")]
[False, True, False, 6]
>>> tail = Web.of_ties(("a", "b"), ("b", "c"), ("a", "c"), ("c", "d"))
>>> [order_from(tail, "a", "b"), stop_for(tail, "a", "b"), stop_for(tail, "a", "d"), list(each_order(tail, "a", "d")), is_stop(tail, "a", "b", "d")]
[None, 'c', None, [('a', 'b', 'c', 'd')], False]
# flatwebs.rank.ears
>>> [is_ears(WHEEL, (("a", "b", "c", "d"), ("a", "h", "b"), ("c", "h"), ("d", "h"))), len(ears_of(PRISM)), ears_of(tail), web_of_ears((("a", "b", "c"), ("a", "d", "c"))).ties]
[True, 4, None, (('a', 'b'), ('a', 'c'), ('a', 'd'), ('b', 'c'), ('c', 'd'))]
>>> [is_order(WHEEL, "a", "b", order_by_ears((("a", "b", "c", "d"), ("a", "h", "b"), ("c", "h"), ("d", "h")), "a", "b")), is_ears(WHEEL, ears_by_order(WHEEL, ("a", "d", "h", "c", "b")))]
[True, True]
# flatwebs.rank.beams
>>> kite = ((("a", 0, 0, 1), ("b", 3, 0, 2), ("c", 1, 1, 2), ("d", 2, 2, 2)), (("a", "b", 0), ("a", "c", 1), ("b", "c", 1), ("b", "d", 2), ("c", "d", 2)))
>>> [is_beams(KITE, kite), drawing_of_beams(KITE, kite).lines, order_of_beams(KITE, kite), are_beams_of(drawing_of_beams(KITE, kite), ("a", "c", "d", "b"), kite)]
[True, ('a: b c', 'b: a c d', 'c: a d b', 'd: b c'), ('a', 'c', 'd', 'b'), True]
>>> other = mirrored_beams(KITE, kite)
>>> [other[0][0], other[1][0], drawing_of_beams(KITE, other) == drawing_of_beams(KITE, kite).mirror, lines_of_beams(KITE, kite)[4], is_beams(KITE, (kite[0], kite[1][::-1]))]
[('a', 0, 1, 2), ('a', 'b', 2), True, 'upright a b 0', False]
>>> [is_beams(KITE, (kite[0], (("a", "b", 1), *kite[1][1:]))), are_beams_of(flat, ("a", "d", "c", "b"), beams_of(flat, ("a", "d", "c", "b")))]
[False, True]
# flatwebs.grid.trees flatwebs.grid.corners
>>> outer = ("a", "b", "c")
>>> trees = three_trees(flat, outer)
>>> [trees, corners(flat, outer, trees), ways_of(flat, outer, trees, "d"), turnable(flat, outer, trees), len(list(each_three_trees(flat, outer)))]
[{'d': ('a', 'b', 'c')}, {'a': (3, 0), 'b': (0, 3), 'c': (0, 0), 'd': (1, 1)}, (('d', 'a'), ('d', 'b'), ('d', 'c')), (), 1]
>>> [drawing_by_grid(FOUR, corners(flat, outer, trees)) == flat, write_trees(trees), read_trees("d a b c") == trees, is_three_trees(flat, outer, {"d": ("b", "c", "a")})]
[True, 'd a b c', True, False]
>>> [is_grid(KITE, {"a": (0, 0), "b": (4, 0), "c": (0, 4), "d": (4, 4)}), is_grid(KITE, {"a": (0, 0), "b": (4, 0), "c": (0, 4), "d": (2, 2)}), drawing_by_grid(KITE, {"a": (0, 0), "b": (4, 0), "c": (0, 4), "d": (4, 4)}).table["b"]]
[True, False, ('a', 'd', 'c')]
>>> SIX = Drawing.from_rims(("a", "b", "c"), ("a", "c", "e"), ("a", "d", "b"), ("a", "e", "d"), ("b", "d", "f"), ("b", "f", "c"), ("c", "f", "e"), ("d", "e", "f"))
>>> low = least_trees(SIX, outer)
>>> [len(list(each_three_trees(SIX, outer))), low, turnable(SIX, outer, low), corners(SIX, outer, low)["d"], turned_ring(SIX, outer, low, ("d", "e", "f"))["d"]]
[2, {'d': ('a', 'b', 'e'), 'e': ('a', 'f', 'c'), 'f': ('d', 'b', 'c')}, (('d', 'e', 'f'),), (4, 2), ('a', 'b', 'f')]
# flatwebs.grid.springs
>>> picture = springs(flat, ("a", "b", "c"))
>>> [picture["c"], picture["d"], energy(FOUR, picture), bend_of(picture, ("a", "b", "c")), bend_of(picture, ("a", "c", "d")), double_area(picture, ("a", "b", "c"))]
[((2, 1), (4, 1)), ((1, 1), (5, 3)), (128, 3), 1, -1, (2, 1)]
>>> strong = {("a", "b"): 1, ("a", "c"): 1, ("a", "d"): 2, ("b", "c"): 1, ("b", "d"): 1, ("c", "d"): 1}
>>> [springs(flat, ("a", "b", "c"), strengths=strong)["d"], is_flat(FOUR, picture), drawing_shown(FOUR, picture) == flat]
[((3, 4), (5, 4)), True, True]
>>> kite = rest_of(KITE, {"a": (0, 0), "b": (1, 1), "c": (2, 4)})
>>> [kite["d"], is_flat(KITE, kite), is_rest(KITE, {"a": (0, 0)}, kite), rest_of(KITE, {"a": (7, -7)})["d"]]
[((3, 2), (5, 2)), False, False, ((7, 1), (-7, 1))]
# flatwebs.dye.colours
>>> OCTA = ~Web.of_ties(("a", "d"), ("b", "e"), ("c", "f"))
>>> [three_colours(drawing_of(OCTA)), sum(rim_colours(drawing_of(OCTA))), rim_colours(drawing_of(WHEEL)), odd_place(drawing_of(OCTA)), three_colours(drawing_of(FOUR))]
[{'a': 0, 'b': 1, 'c': 2, 'd': 0, 'e': 1, 'f': 2}, 4, None, None, None]
>>> flat = drawing_of(FOUR)
>>> dyes = dyes_of(flat, {"a": 0, "b": 1, "c": 2, "d": 3})
>>> [dyes, colours_by(flat, dyes, "a", 2), is_dyes(flat, dyes), is_four_colours(FOUR, {"a": 0, "b": 1, "c": 2, "d": 2})]
[{('a', 'b'): 1, ('a', 'c'): 2, ('a', 'd'): 3, ('b', 'c'): 3, ('b', 'd'): 2, ('c', 'd'): 1}, {'a': 2, 'b': 3, 'c': 0, 'd': 1}, True, False]
>>> lists = {"a": (1,), "b": (2,), "c": (1, 2, 3, 4, 5), "d": (1, 2, 3, 4, 5)}
>>> chosen = choice_by_rim(flat, flat.rim_along("a", "b"), "a", "b", lists)
>>> [is_choice(FOUR, lists, chosen), choice_of(KITE, {"a": (1, 2, 3, 4, 5), "b": (1, 2, 3, 4, 5), "c": (1, 2, 3, 4, 5), "d": (1, 2, 3, 4, 5)})["b"] in (1, 2, 3, 4, 5)]
[True, True]
# flatwebs.outer.webs
>>> fan = KITE.with_place("e").with_tie("b", "e").with_tie("d", "e")
>>> [outer_ring(KITE), outer_ring(fan), outer_ring(FOUR), do_cross(("a", "b", "d", "c"), ("a", "d"), ("b", "c")), reason_against(FOUR)[:2], reason_against(fan)]
[('a', 'b', 'd', 'c'), ('a', 'b', 'e', 'd', 'c'), None, True, ('four', ('a', 'b', 'c', 'd')), None]
>>> [drawing_by_ring(KITE, ("b", "d", "c", "a")).rims, len(outer_drawings(KITE)), len(outer_drawings(ring_web(("a", "b", "c", "d")))), is_outer_drawing(flat)]
[(('a', 'b', 'd', 'c'), ('a', 'c', 'b'), ('b', 'c', 'd')), 2, 1, False]
>>> [inner_tree(drawing_by_ring(KITE, ("a", "b", "d", "c"))), is_full(KITE), count_full(("a", "b", "c", "d", "e")), [len(web.ties) for web in each_full(("a", "b", "c", "d"))]]
[((('a', 'c', 'b'), ('b', 'c', 'd')), ((0, 1),)), True, 5, [5, 5]]
>>> [is_reason(HOUSES, ("two", (("a", "b"), ("d", "e", "f")), (("a", "d"), ("a", "e"), ("a", "f"), ("b", "d"), ("b", "e"), ("b", "f")))), is_outer_web(HOUSES), is_outer_web(Web.of_ties(("a", "b"), ("b", "c")))]
[True, False, True]
>>> [outer_choice(ring_web(("a", "b", "c")), {"a": (0,), "b": (0, 1), "c": (0, 1, 2)}), outer_choice(FOUR, {name: (0, 1, 2) for name in "abcd"})]
[{'a': 0, 'b': 1, 'c': 2}, None]
# flatwebs.use.bench
>>> bench = Bench(flat)
>>> [bench.demand(("tied", "b", "c")), bench.strike("a", "d"), bench.tie("a", "d", ("a", "c", "d", "b")) == bench.undo(), str(bench)]
[((), ()), ((('a', 'c', 'd'), ('a', 'd', 'b')), (('a', 'c', 'd', 'b'),)), False, 'bench of 4 places, 5 ties, 3 rims, 1 pledges']
>>> bench.strike("b", "c")
raises Refused
>>> [bench.undo(), bench.split("d", "e", "a", "b"), bench.drawing.lines, bench.merge("d", "e")[1] == flat.rims[1:], bench.drawing == flat]
[((('a', 'c', 'd', 'b'),), (('a', 'c', 'd'), ('a', 'd', 'b'))), ((('a', 'c', 'd'), ('a', 'd', 'b'), ('b', 'd', 'c')), (('a', 'c', 'd', 'e'), ('a', 'e', 'b'), ('b', 'e', 'd', 'c'))), ('a: b e c', 'b: a c e', 'c: a d b', 'd: c e', 'e: a b d'), True, True]
"""
FLAT = {"a": ("b", "d", "c"), "b": ("a", "c", "d"), "c": ("a", "d", "b"), "d": ("a", "b", "c")}


def sections():
    """The names of the modules of each section, and its lines."""
    found = []
    for line in EXAMPLES.strip().split("\n"):
        if line.startswith("# "):
            found.append((line[2:].split(), []))
        else:
            found[-1][1].append(line)
    return found


class Examples(unittest.TestCase):

    def setUp(self):
        self.names = {"Web": Web}
        exec(WEBS, self.names)

    def run_lines(self, lines):
        """Runs the lines of a section, each one with the result behind it; how many results were compared."""
        compared = 0
        for line, behind in zip(lines, lines[1:] + [""]):
            if not line.startswith(">>> "):
                continue
            code = line[4:]
            if behind.startswith("raises "):
                self.assertRaises(getattr(errors, behind[7:]), eval, code, self.names)
            elif behind and not behind.startswith(">>> "):
                self.assertEqual(eval(code, self.names), eval(behind, {}), code)
            else:
                exec(code, self.names)
                continue
            compared += 1
        return compared

    def test_examples(self):
        many = 0
        for modules, lines in sections():
            # Some sections call another drawing `flat`.
            self.names["flat"] = Drawing(self.names["FOUR"], FLAT)
            for name in modules:
                module = importlib.import_module(name)
                self.names.update({word: one for word, one in vars(module).items() if callable(one)})
            with self.subTest(modules):
                found = self.run_lines(lines)
                self.assertGreater(found, 0)
                many += found
        self.assertEqual(many, 57)


if __name__ == "__main__":
    unittest.main()
