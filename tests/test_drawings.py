"""[0.9] to [0.12]: tables, rims and drawings."""

import itertools
import random

from flatwebs.base.drawings import Drawing, is_drawing, is_table, lack_of, rims_of
from flatwebs.base.webs import Web, ring_web
from flatwebs.errors import (
    InvalidDrawing, InvalidOperation, InvalidRim, InvalidTable, InvalidTie, InvalidWeb, ParseError, UnknownName)
from tests.samples import (
    APART, BOW, FLAT_TABLE, FOUR, GLUED, HOUSES, KITE, OBJECTS, ONE, PRISM, TWELVE, TWO, WHEEL, WRONG, Case,
    all_tables, any_drawing, flat, not_webs, webs_on)

STAR = Web.of_ties(("a", "m"), ("b", "m"), ("c", "m"))
STAR_TABLE = {"a": ("m",), "b": ("m",), "c": ("m",), "m": ("a", "b", "c")}
kite = flat.without_tie("a", "b")
DRAWN = [flat, kite, Drawing(ONE, {"a": ()}), Drawing(TWO, {"a": ("b",), "b": ("a",)}), Drawing(STAR, STAR_TABLE),
         any_drawing(WHEEL), any_drawing(PRISM), any_drawing(GLUED), any_drawing(BOW), any_drawing(ring_web(TWELVE)),
         flat.mirror, any_drawing(BOW).mirror]


def slow_rims(table):
    """The rims of a table, walked tie by tie as [0.10] tells."""
    rims = set()
    for u in table:
        for v in table[u]:
            walk = []
            at, to = u, v
            while (at, to) not in walk:
                walk.append((at, to))
                turns = table[to]
                at, to = to, turns[(turns.index(at) + 1) % len(turns)]
            row = tuple(step[0] for step in walk)
            rims.add(min(row[k:] + row[:k] for k in range(len(row))))
    return tuple(sorted(rims)) or ((),)


def no_tables(table):
    """Values near a table that are none."""
    first = next(place for place in table if len(table[place]) > 2)
    near = table[first]
    rounds = [near[1:] + near[:1], near[:-1], near + near[:1], near + near[-1:], list(near), near[:1] * len(near),
              near[:-1] + (first,), near[:-1] + ("zz",), near[:-1] + (None,), near[:-1] + ((near[-1],),), (), None,
              "".join(near), {place: 1 for place in near}, True, near[:-1] + (["a"],)]
    values = [{**table, first: one} for one in rounds]
    values += [{place: table[place] for place in table if place != first}, {**table, "zz": ()}, {**table, 1: ()},
               {**table, None: ("a",)}, tuple(table.items()), list(table), tuple(table)]
    return values + WRONG + OBJECTS


class Examples(Case):

    def test_examples(self):
        self.assertEqual(
            [flat.rims, flat.behind("a", "d"), flat.rim_along("b", "a"), flat.rims_round("a"), str(flat),
             flat.is_triangulated],
            [(("a", "b", "c"), ("a", "c", "d"), ("a", "d", "b"), ("b", "d", "c")), "c", ("a", "d", "b"),
             (("a", "d", "b"), ("a", "c", "d"), ("a", "b", "c")), "drawing of 4 places, 6 ties, 4 rims", True])
        self.assertEqual(
            [flat.mirror.lines, flat.without_tie("a", "b").rims,
             Drawing.from_rims(("b", "c", "a"), ("c", "d", "a"), ("b", "a", "d"), ("b", "d", "c")) == flat],
            [("a: b c d", "b: a d c", "c: a b d", "d: a c b"),
             (("a", "c", "d"), ("a", "d", "b", "c"), ("b", "d", "c")), True])
        twisted = {"a": ("b", "c", "d"), "b": ("a", "c", "d"), "c": ("a", "b", "d"), "d": ("a", "b", "c")}
        self.assertEqual([lack_of(FOUR, twisted), ("b", "c", "a") in flat, ("a", "b", "c") in flat],
                         [2, False, True])


class Tables(Case):

    def test_all_tables(self):
        for web in [ONE, TWO, APART, STAR, KITE, FOUR, BOW, HOUSES, Web(("a", "b"), ())]:
            for table in all_tables(web):
                self.is_bool(is_table(web, table), True)
                self.is_bool(is_table(web, {place: table[place] for place in reversed(table)}), True)
                if not web.hangs:
                    self.is_bool(is_drawing(web, table), False)
                    self.refuses(InvalidDrawing, Drawing, web, table)
                    self.refuses(InvalidOperation, rims_of, web, table)
                    self.refuses(InvalidOperation, lack_of, web, table)
                    continue
                rims = slow_rims(table)
                lack = 2 - len(web) + len(web.ties) - len(rims)
                self.assertEqual((rims_of(web, table), lack_of(web, table)), (rims, lack))
                self.assertTrue(lack >= 0 and lack % 2 == 0)
                self.is_bool(is_drawing(web, table), lack == 0)
                if lack:
                    self.refuses(InvalidDrawing, Drawing, web, table)
                else:
                    self.assertEqual(Drawing(web, table).rims, rims)

    def test_numbers_of_drawings(self):
        for web, many in ((FOUR, 2), (KITE, 2), (HOUSES, 0), (STAR, 2), (BOW, 8), (ONE, 1), (TWO, 1)):
            self.assertEqual(sum(is_drawing(web, table) for table in all_tables(web)), many, str(web))

    def test_no_tables(self):
        for web, table in ((FOUR, FLAT_TABLE), (STAR, STAR_TABLE)):
            for value in no_tables(table):
                self.is_bool(is_table(web, value), False)
                self.is_bool(is_drawing(web, value), False)
                self.refuses(InvalidTable, rims_of, web, value)
                self.refuses(InvalidTable, lack_of, web, value)
                self.refuses(InvalidTable, Drawing, web, value)
        self.is_bool(is_table(ONE, {"a": ("a",)}), False)
        self.is_bool(is_table(ONE, {"a": []}), False)
        self.refuses(InvalidTable, rims_of, APART, None)
        self.refuses(InvalidTable, Drawing, APART, {})

    def test_webs_that_fall_apart(self):
        # [0.23]: rims in the number of a drawing do not make one of a web that falls apart.
        twisted = {"a": ("b", "c", "d"), "b": ("a", "c", "d"), "c": ("a", "b", "d"), "d": ("a", "b", "c")}
        for web, table in ((FOUR + Web.of_ties(("y", "z")), {**twisted, "y": ("z",), "z": ("y",)}),
                           (FOUR.with_place("y").with_place("z"), {**twisted, "y": (), "z": ()})):
            self.is_bool(is_table(web, table), True)
            self.is_bool(is_drawing(web, table), False)
            self.refuses(InvalidDrawing, Drawing, web, table)
            self.refuses(InvalidOperation, lack_of, web, table)

    def test_no_webs(self):
        for value in not_webs():
            for call in (is_table, rims_of, lack_of, is_drawing, Drawing):
                self.refuses(InvalidWeb, call, value, FLAT_TABLE)
                self.refuses(InvalidWeb, call, value, None)

    def test_longest(self):
        web = Web(TWELVE, tuple(itertools.combinations(TWELVE, 2))[:40])
        table = {place: web.neighbours(place) for place in web.places}
        self.assertEqual(rims_of(web, table), slow_rims(table))
        self.is_bool(is_drawing(web, table), False)
        self.assertEqual(rims_of(ONE, {"a": ()}), ((),))

    def test_rims_of_blocks_are_rings(self):
        for drawing in DRAWN:
            if drawing.web.is_block:
                for rim in drawing.rims:
                    self.assertEqual(len(set(rim)), len(rim))
                    self.assertEqual(rim[0], min(rim))

    def test_rims_that_pass_places_again(self):
        self.assertEqual(Drawing(STAR, STAR_TABLE).rims, (("a", "m", "b", "m", "c", "m"),))
        self.assertEqual(Drawing(TWO, {"b": ("a",), "a": ("b",)}).rims, (("a", "b"),))


class Reading(Case):

    def test_it_never_changes(self):
        table = dict(FLAT_TABLE)
        drawing = Drawing(FOUR, table)
        table["a"] = ("b", "c", "d")
        drawing.table["b"] = ()
        self.assertEqual((drawing.table, drawing == flat), (FLAT_TABLE, True))
        for name in ("web", "table", "rims", "lines", "mirror", "is_triangulated"):
            self.assertIsInstance(Drawing.__dict__[name], property)
            with self.assertRaises(AttributeError):
                setattr(drawing, name, None)
        for name in ("from_lines", "from_rims", "round_at", "behind", "rim_along", "rims_round", "renamed",
                     "tied_within", "without_tie"):
            self.assertIn(name, Drawing.__dict__)

    def test_properties(self):
        drawing = Drawing(FOUR, {place: FLAT_TABLE[place] for place in "dbca"})
        self.assertEqual(list(drawing.table), ["a", "b", "c", "d"])
        self.assertEqual(drawing.web, FOUR)
        self.assertEqual(drawing.lines, ("a: b d c", "b: a c d", "c: a d b", "d: a b c"))
        self.assertEqual(DRAWN[2].lines, ("a:",))

    def test_mirror(self):
        for drawing in DRAWN:
            mirror = drawing.mirror
            self.assertEqual(mirror.mirror, drawing)
            self.assertEqual(mirror.web, drawing.web)
            back = sorted(min(rim[k:] + rim[:k] for k in range(len(rim) or 1)) for rim in
                          (rim[::-1] for rim in drawing.rims))
            self.assertEqual(mirror.rims, tuple(back))
            for place in drawing.web.places:
                turns = drawing.round_at(place)
                self.assertEqual(mirror.round_at(place), turns[:1] + turns[:0:-1])

    def test_rounds_and_rims(self):
        for drawing in DRAWN:
            for place in drawing.web.places:
                turns = drawing.table[place]
                self.assertEqual(drawing.round_at(place), turns)
                for k, near in enumerate(turns):
                    self.assertEqual(drawing.behind(place, near), turns[(k + 1) % len(turns)])
                    rim = drawing.rim_along(place, near)
                    self.assertIn((place, near), list(zip(rim, rim[1:] + rim[:1])))
                    self.assertIn(rim, drawing)
                rims = tuple(drawing.rim_along(near, place) for near in turns)
                self.assertEqual(drawing.rims_round(place), rims or ((),))

    def test_lookups_refuse(self):
        for wrong in ["x", "A", ("a",), *WRONG, *OBJECTS]:
            self.refuses(UnknownName, kite.round_at, wrong, word=wrong)
            self.refuses(UnknownName, kite.rims_round, wrong, word=wrong)
            for call in (kite.behind, kite.rim_along, kite.without_tie):
                self.refuses(UnknownName, call, wrong, "a", word=wrong)
                self.refuses(UnknownName, call, "a", wrong, word=wrong)
                self.refuses(UnknownName, call, wrong, "zz", word=wrong)
        for call in (kite.behind, kite.rim_along, kite.without_tie):
            self.refuses(InvalidTie, call, "a", "b")
            self.refuses(InvalidTie, call, "a", "a")
        self.refuses(InvalidTie, DRAWN[2].rim_along, "a", "a")

    def test_triangulated(self):
        ring = any_drawing(ring_web(("a", "b", "c")))
        for drawing in [flat, ring]:
            self.is_bool(drawing.is_triangulated, True)
        for drawing in [kite, *DRAWN[2:9]]:
            self.is_bool(drawing.is_triangulated, False)

    def test_containing_and_iterating(self):
        for drawing in DRAWN:
            self.assertEqual((list(drawing), len(drawing)), (list(drawing.rims), len(drawing.rims)))
            for rim in drawing:
                self.is_bool(rim in drawing, True)
        for value in [("b", "c", "a"), ("a", "c", "b"), ["a", "b", "c"], ("a", "b"), "a", *WRONG, *OBJECTS]:
            self.is_bool(value in flat, False)
        self.is_bool(() in DRAWN[2], True)

    def test_equality(self):
        self.is_bool(flat == Drawing(Web(FOUR.places, FOUR.ties), dict(FLAT_TABLE)), True)
        self.is_bool(flat != Drawing(FOUR, FLAT_TABLE), False)
        for value in [flat.mirror, kite, FOUR, FLAT_TABLE, flat.rims, flat.lines, str(flat), *WRONG]:
            self.is_bool(flat == value, False)
            self.is_bool(value == flat, False)
            self.is_bool(flat != value, True)

    def test_text(self):
        self.assertEqual([str(DRAWN[2]), str(kite)],
                         ["drawing of 1 places, 0 ties, 1 rims", "drawing of 4 places, 5 ties, 3 rims"])


class FromLines(Case):

    def test_lines_lead_back(self):
        for drawing in DRAWN:
            self.assertEqual(Drawing.from_lines(*drawing.lines), drawing)
            self.assertEqual(Drawing.from_lines(*drawing.lines[::-1]), drawing)

    def test_no_line(self):
        for line in ["", ":", "a", "a b c", "b:a", "b: ", "b:  a", " b: a", "b: a ", "b: a  c", "b: c a", "b: a a",
                     "b: a c a", "b: b", "b: a b", "B: a", "b: A", "b: a1", "b : a", "b:: a", "b: a:", "b: a\n",
                     "b:\n", "b:\ta", "abcdefghi: a", "b: abcdefghi", "b: a, c", *WRONG, *OBJECTS]:
            self.refuses(ParseError, Drawing.from_lines, "a: b", line, None, number=1)
            self.refuses(ParseError, Drawing.from_lines, line, number=0)

    def test_told_again(self):
        self.refuses(ParseError, Drawing.from_lines, "a: b", "b: a", "a: b", number=2)
        self.refuses(ParseError, Drawing.from_lines, "a: b", "a:", "", number=1)

    def test_no_web(self):
        self.refuses(InvalidWeb, Drawing.from_lines)
        self.refuses(InvalidWeb, Drawing.from_lines, "a: b")
        self.refuses(InvalidWeb, Drawing.from_lines, "a: b c", "b: a")
        self.refuses(InvalidWeb, Drawing.from_lines, *[f"{name}:" for name in TWELVE + ("m",)])
        full = [" ".join([f"{one}:"] + [x for x in TWELVE[:10] if x != one]) for one in TWELVE[:10]]
        self.refuses(InvalidWeb, Drawing.from_lines, *full)
        self.refuses(InvalidDrawing, Drawing.from_lines, *[line.replace(" j", "") for line in full[:9]])

    def test_no_table(self):
        self.refuses(InvalidTable, Drawing.from_lines, "a: b", "b:")
        self.refuses(InvalidTable, Drawing.from_lines, "a:", "b: a")
        self.refuses(InvalidTable, Drawing.from_lines, "a: b c", "b: a c", "c: a")
        self.refuses(InvalidTable, Drawing.from_lines, "a:", "b: a", "c:")

    def test_no_drawing(self):
        self.refuses(InvalidDrawing, Drawing.from_lines, "a:", "b:")
        self.refuses(InvalidDrawing, Drawing.from_lines, "a: b", "b: a", "c: d", "d: c")
        self.refuses(InvalidDrawing, Drawing.from_lines, "a: b c d", "b: a c d", "c: a b d", "d: a b c")


class FromRims(Case):

    def test_rims_lead_back(self):
        chance = random.Random(1)
        for drawing in DRAWN:
            if len(drawing.web) == 1:
                continue
            self.assertEqual(Drawing.from_rims(*drawing.rims), drawing)
            rims = [rim[k:] + rim[:k] for rim in drawing.rims for k in [chance.randrange(len(rim))]]
            chance.shuffle(rims)
            self.assertEqual(Drawing.from_rims(*rims), drawing)

    def test_near_misses(self):
        for drawing in (flat, kite, any_drawing(PRISM), any_drawing(BOW)):
            rims = drawing.rims
            for k, rim in enumerate(rims):
                rest = rims[:k] + rims[k + 1:]
                self.refuses(InvalidDrawing, Drawing.from_rims, *rest)
                self.refuses(InvalidDrawing, Drawing.from_rims, *rims, rim)
                self.refuses(InvalidDrawing, Drawing.from_rims, *rest, list(rim))
                self.refuses(InvalidDrawing, Drawing.from_rims, *rest, rim + rim)
                self.refuses(InvalidDrawing, Drawing.from_rims, *rest, rim[:-1])
                self.refuses(InvalidDrawing, Drawing.from_rims, *rest, rim[::-1])
                self.refuses(InvalidDrawing, Drawing.from_rims, *rest, rim[:-1] + ("zz",))
            self.refuses(InvalidDrawing, Drawing.from_rims, *rims, ())

    def test_no_rims(self):
        for value in [(), ("a",), ("a", "a"), ("a", "b", "b"), ("a", "b", "a", "b"), "ab", ["a", "b"], *WRONG,
                      *OBJECTS]:
            self.refuses(InvalidDrawing, Drawing.from_rims, value)
            self.refuses(InvalidDrawing, Drawing.from_rims, *flat.rims, value)
        self.refuses(InvalidDrawing, Drawing.from_rims)

    def test_no_drawing(self):
        self.refuses(InvalidDrawing, Drawing.from_rims, ("a", "b"), ("c", "d"))
        # Two rings of three that share only a place tell two rounds of it.
        self.refuses(InvalidDrawing, Drawing.from_rims, ("a", "b", "c"), ("a", "c", "b"), ("c", "d", "e"),
                     ("c", "e", "d"))
        # As many rims as ties: the table lacks rims of a drawing.
        twisted = {"a": ("b", "c", "d"), "b": ("a", "c", "d"), "c": ("a", "b", "d"), "d": ("a", "b", "c")}
        self.refuses(InvalidDrawing, Drawing.from_rims, *rims_of(FOUR, twisted))

    def test_too_large(self):
        ring = TWELVE + ("m",)
        self.refuses(InvalidDrawing, Drawing.from_rims, ring, ring[::-1])
        self.assertEqual(len(Drawing.from_rims(TWELVE, TWELVE[::-1])), 2)
        full = [" ".join(row) for row in itertools.combinations(TWELVE, 3)]
        self.refuses(InvalidDrawing, Drawing.from_rims, *[tuple(row.split()) for row in full])

    def test_of_all_webs_of_four_places(self):
        for web in webs_on(4):
            for table in all_tables(web):
                if web.hangs:
                    if is_drawing(web, table):
                        self.assertEqual(Drawing.from_rims(*rims_of(web, table)).table, table)
                    else:
                        self.refuses(InvalidDrawing, Drawing.from_rims, *rims_of(web, table))


class Changing(Case):

    def test_renamed(self):
        names = {"a": "d", "b": "zz", "c": "a", "d": "c"}
        drawing = flat.renamed(names)
        self.assertEqual(drawing.lines, ("a: c zz d", "c: a d zz", "d: a zz c", "zz: a c d"))
        self.assertEqual(drawing.renamed({names[name]: name for name in names}), flat)
        self.assertEqual(drawing.rims, rims_of(drawing.web, drawing.table))
        for wrong in [{}, {"a": "b"}, {"a": "x", "b": "x", "c": "y", "d": "z"}, {**names, "e": "f"},
                      {**names, "a": "D"}, {**names, "a": None}, ("a", "b", "c", "d"), *WRONG, *OBJECTS]:
            self.refuses(InvalidOperation, flat.renamed, wrong)

    def test_tie_put_in_and_struck(self):
        for drawing in DRAWN:
            if not drawing.web.is_block:
                continue
            for rim in drawing.rims:
                for a, b in itertools.permutations(rim, 2):
                    if drawing.web.is_tied(a, b):
                        self.refuses(InvalidTie, drawing.tied_within, a, b, rim)
                        continue
                    more = drawing.tied_within(a, b, rim)
                    self.assertEqual(more.web, drawing.web.with_tie(a, b))
                    self.assertEqual(len(more), len(drawing) + 1)
                    self.assertEqual(set(drawing) - set(more), {rim})
                    self.assertEqual(more.without_tie(b, a), drawing)
                    self.assertEqual(more, drawing.tied_within(b, a, rim))

    def test_tied_within_by_hand(self):
        self.assertEqual(kite.tied_within("a", "b", ("a", "d", "b", "c")), flat)
        square = Drawing.from_lines("a: b d", "b: a c", "c: b d", "d: a c")
        one, other = square.rims
        self.assertEqual(square.rims, (("a", "b", "c", "d"), ("a", "d", "c", "b")))
        self.assertEqual(square.tied_within("a", "c", one).rims,
                         (("a", "b", "c"), ("a", "c", "d"), ("a", "d", "c", "b")))
        self.assertEqual(square.tied_within("c", "a", other).rims,
                         (("a", "b", "c", "d"), ("a", "c", "b"), ("a", "d", "c")))

    def test_tied_within_refuses(self):
        rim = ("a", "d", "b", "c")
        self.refuses(InvalidOperation, any_drawing(BOW).tied_within, "zz", None, None)
        self.refuses(InvalidOperation, DRAWN[2].tied_within, "a", "a", ())
        for wrong in ["x", *WRONG, *OBJECTS]:
            self.refuses(UnknownName, kite.tied_within, wrong, "zz", None, word=wrong)
            self.refuses(UnknownName, kite.tied_within, "a", wrong, None, word=wrong)
            self.refuses(InvalidRim, kite.tied_within, "a", "b", wrong)
        for value in (("d", "b", "c", "a"), ("a", "c", "b", "d"), list(rim), ("a", "c", "d"), ("b", "d", "c")):
            self.refuses(InvalidRim, kite.tied_within, "a", "b", value)
        self.refuses(InvalidRim, kite.tied_within, "b", "b", ("a", "c", "d"))
        self.refuses(InvalidTie, kite.tied_within, "a", "a", rim)
        self.refuses(InvalidTie, kite.tied_within, "a", "d", rim)
        self.refuses(InvalidTie, kite.tied_within, "c", "d", rim)

    def test_without_tie(self):
        for drawing in DRAWN:
            for a, b in drawing.web:
                if drawing.web.without_tie(a, b).hangs:
                    fewer = drawing.without_tie(b, a)
                    self.assertEqual(fewer.web, drawing.web.without_tie(a, b))
                    self.assertEqual(len(fewer), len(drawing) - 1)
                    for place in fewer.web.places:
                        turns = [x for x in drawing.round_at(place) if (place, x) not in ((a, b), (b, a))]
                        k = turns.index(min(turns)) if turns else 0
                        self.assertEqual(fewer.round_at(place), tuple(turns[k:] + turns[:k]))
                else:
                    self.refuses(InvalidOperation, drawing.without_tie, a, b)

    def test_refused_calls_change_nothing(self):
        drawing = Drawing(kite.web, kite.table)
        for call in (lambda: drawing.tied_within("a", "d", ("a", "c", "d")), lambda: drawing.renamed({}),
                     lambda: drawing.without_tie("a", "b"), lambda: drawing.round_at(None)):
            with self.assertRaises(Exception):
                call()
            self.assertEqual((drawing == kite, drawing.rims, drawing.table), (True, kite.rims, kite.table))
