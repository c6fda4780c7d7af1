"""[12.1] to [12.3], [0.18]: beams."""

import itertools
import random

from flatwebs.base.drawings import Drawing, is_drawing
from flatwebs.base.webs import Web, full_web, ring_web
from flatwebs.draw.bars import drawing_of
from flatwebs.draw.counted import each_drawing
from flatwebs.errors import InvalidBeams, InvalidDrawing, InvalidOperation, InvalidOrder, InvalidWeb, ParseError
from flatwebs.rank.beams import (
    MAX_REACH, are_beams_of, beams_of, beams_of_lines, drawing_of_beams, is_beams, lines_of_beams, mirrored_beams,
    order_of_beams)
from flatwebs.rank.orders import each_order
from tests.samples import (
    APART, BOW, CUBE, FOUR, GLUED, HOUSES, KITE, OBJECTS, OCTA, ONE, PRISM, THREE, TWELVE, TWENTY, TWO, WHEEL, WRONG, Case,
    bent, blocks_on, flat, not_drawings, not_webs, woven_webs)

BLOCKS = [*blocks_on(3, 4), *[web for web in blocks_on(5)[::5] if drawing_of(web)], WHEEL, PRISM, GLUED, OCTA, CUBE,
          THREE, THREE.with_tie("a", "b"), ring_web(TWELVE), TWENTY.web,
          *[web for web in woven_webs(8, 6, 81) + woven_webs(12, 5, 82) if drawing_of(web)]]
BEAMS = ((("a", 0, 0, 1), ("b", 3, 0, 2), ("c", 1, 1, 2), ("d", 2, 2, 2)),
         (("a", "b", 0), ("a", "c", 1), ("b", "c", 1), ("b", "d", 2), ("c", "d", 2)))
drawn = Drawing(KITE, {"a": ("b", "c"), "b": ("a", "c", "d"), "c": ("a", "d", "b"), "d": ("b", "c")})


def is_number(value):
    return type(value) is int and 0 <= value <= 1000


def slow_is_beams(web, value):
    """[12.1], as it is told."""
    if type(value) is not tuple or len(value) != 2 or any(type(rows) is not tuple for rows in value):
        return False
    levels, uprights = value
    if any(type(row) is not tuple for row in levels + uprights):
        return False
    if [len(row) for row in levels] != [4] * len(web) or [len(row) for row in uprights] != [3] * len(web.ties):
        return False
    if any(level[0] != place or not all(map(is_number, level[1:])) for level, place in zip(levels, web.places)):
        return False
    if any(row[:2] != tie or not is_number(row[2]) for row, tie in zip(uprights, web.ties)):
        return False
    at = {place: (height, left, right) for place, height, left, right in levels}
    if len({at[place][0] for place in at}) < len(at) or any(at[place][1] > at[place][2] for place in at):
        return False
    for a, b, x in uprights:
        if not all(at[place][1] <= x <= at[place][2] for place in (a, b)):
            return False
        between = range(min(at[a][0], at[b][0]) + 1, max(at[a][0], at[b][0]))
        if any(at[place][0] in between and at[place][1] <= x <= at[place][2] for place in at):
            return False
    return True


def slow_table(web, beams):
    """[12.2], as it is told: round a place the spots above from the right, then those below from the left."""
    heights = {level[0]: level[1] for level in beams[0]}
    table = {}
    for place in web.places:
        spots = []
        for a, b, x in beams[1]:
            if place in (a, b):
                other = b if a == place else a
                spots.append((0, -x, other) if heights[other] > heights[place] else (1, x, other))
        row = tuple(other for _, _, other in sorted(spots))
        at = row.index(min(row)) if row else 0
        table[place] = row[at:] + row[:at]
    return table


def some_orders(web, many):
    for a, b in web.ties:
        for first, last in ((a, b), (b, a)):
            yield from itertools.islice(each_order(web, first, last), many)


class Examples(Case):

    def test_examples(self):
        self.assertEqual(
            [is_beams(KITE, BEAMS), drawing_of_beams(KITE, BEAMS).lines, order_of_beams(KITE, BEAMS),
             are_beams_of(drawing_of_beams(KITE, BEAMS), ("a", "c", "d", "b"), BEAMS)],
            [True, ("a: b c", "b: a c d", "c: a d b", "d: b c"), ("a", "c", "d", "b"), True])
        other = mirrored_beams(KITE, BEAMS)
        self.assertEqual(
            [other[0][0], other[1][0], drawing_of_beams(KITE, other) == drawing_of_beams(KITE, BEAMS).mirror,
             lines_of_beams(KITE, BEAMS)[4], is_beams(KITE, (BEAMS[0], BEAMS[1][::-1]))],
            [("a", 0, 1, 2), ("a", "b", 2), True, "upright a b 0", False])
        self.assertEqual(
            [is_beams(KITE, (BEAMS[0], (("a", "b", 1), *BEAMS[1][1:]))),
             are_beams_of(flat, ("a", "d", "c", "b"), beams_of(flat, ("a", "d", "c", "b")))],
            [False, True])


class Beams(Case):

    def check(self, drawing, order, beams):
        web = drawing.web
        self.assertTrue(slow_is_beams(web, beams), (drawing.lines, order, beams))
        self.is_bool(is_beams(web, beams), True)
        self.is_bool(are_beams_of(drawing, order, beams), True)
        self.assertEqual(drawing_of_beams(web, beams), drawing)
        self.assertEqual(slow_table(web, beams), drawing.table)
        self.assertEqual(order_of_beams(web, beams), order)
        self.assertEqual([level[1] for level in beams[0]], [order.index(place) for place in web.places])
        ends = tuple(sorted((order[0], order[-1])))
        self.assertTrue(all((x == 0) == ((a, b) == ends) for a, b, x in beams[1]))
        other = mirrored_beams(web, beams)
        self.assertTrue(slow_is_beams(web, other))
        self.assertEqual(drawing_of_beams(web, other), drawing.mirror)
        self.assertEqual(order_of_beams(web, other), order)
        lines = list(lines_of_beams(web, beams))
        self.assertEqual(beams_of_lines(web, *lines), beams)
        random.Random(str(beams)).shuffle(lines)
        self.assertEqual(beams_of_lines(web, *lines), beams)

    def test_beams_of_drawings(self):
        for web in BLOCKS:
            for drawing in itertools.islice(each_drawing(web), 3):
                for order in list(some_orders(web, 2))[::1 if len(web) < 8 else 3]:
                    beams = beams_of(drawing, order)
                    self.check(drawing, order, beams)
                    self.assertEqual(beams_of(drawing, order), beams)
                    if drawing.mirror != drawing:
                        self.is_bool(are_beams_of(drawing.mirror, order, beams), False)

    def test_all_drawings_and_orders(self):
        for web in (KITE, FOUR, THREE, WHEEL, full_web(("a", "b", "c"))):
            for drawing in each_drawing(web):
                for order in some_orders(web, 100):
                    self.check(drawing, order, beams_of(drawing, order))

    def test_great_beams(self):
        self.assertEqual((len(TWENTY.web), len(TWENTY.web.ties)), (12, 30))
        for order in itertools.islice(some_orders(TWENTY.web, 1), 20):
            beams = beams_of(TWENTY, order)
            self.check(TWENTY, order, beams)
            self.check(TWENTY.mirror, order, beams_of(TWENTY.mirror, order))

    def test_mirror_twice(self):
        self.assertEqual(mirrored_beams(KITE, mirrored_beams(KITE, BEAMS)), BEAMS)
        # The greatest right counts, also if no upright is there.
        wide = ((*BEAMS[0][:3], ("d", 2, 2, 9)), BEAMS[1])
        self.assertEqual(mirrored_beams(KITE, wide)[0], (("a", 0, 8, 9), ("b", 3, 7, 9), ("c", 1, 7, 8), ("d", 2, 0, 7)))
        self.assertEqual(mirrored_beams(KITE, wide)[1], (
            ("a", "b", 9), ("a", "c", 8), ("b", "c", 8), ("b", "d", 7), ("c", "d", 7)))
        far = (tuple((name, height, left + 5, right + 5) for name, height, left, right in BEAMS[0]),
               tuple((a, b, x + 5) for a, b, x in BEAMS[1]))
        self.is_bool(is_beams(KITE, far), True)
        self.assertEqual(mirrored_beams(KITE, far), mirrored_beams(KITE, BEAMS))
        self.is_bool(are_beams_of(drawn, ("a", "c", "d", "b"), far), False)

    def test_any_beams_tell_a_drawing(self):
        # Random heights and spots: whatever are beams of a web that hangs together tell a drawing.
        chance = random.Random(83)
        found = 0
        for web in [KITE, TWO, BOW, Web.of_ties(("a", "b"), ("b", "c")), full_web(("a", "b", "c"))] * 900:
            heights = chance.sample(range(8), len(web))
            levels = tuple((place, height, *sorted((chance.randrange(4), chance.randrange(4))))
                           for place, height in zip(web.places, heights))
            beams = (levels, tuple((a, b, chance.randrange(4)) for a, b in web.ties))
            right = slow_is_beams(web, beams)
            self.is_bool(is_beams(web, beams), right)
            if right:
                found += 1
                table = slow_table(web, beams)
                self.assertTrue(is_drawing(web, table))
                self.assertEqual(drawing_of_beams(web, beams).table, table)
        self.assertGreater(found, 100)

    def test_edges(self):
        alone = ((("a", 1000, 1000, 1000),), ())
        self.is_bool(is_beams(ONE, alone), True)
        self.assertEqual(drawing_of_beams(ONE, alone).table, {"a": ()})
        self.assertEqual([order_of_beams(ONE, alone), mirrored_beams(ONE, alone)], [("a",), ((("a", 1000, 0, 0),), ())])
        self.assertEqual([MAX_REACH, lines_of_beams(ONE, alone)], [1000, ("beam a 1000 1000 1000",)])
        for numbers in itertools.product((0, 5, 1000, -1, 1001, True, False, None, "0", 10 ** 60), repeat=3):
            beams = ((("a", *numbers),), ())
            self.is_bool(is_beams(ONE, beams), slow_is_beams(ONE, beams))
        for x in (0, 1, 1000, -1, 1001, True, False, None, "1", 10 ** 60, (1,)):
            beams = ((("a", 0, 0, 1000), ("b", 1, 0, 1000)), (("a", "b", x),))
            self.is_bool(is_beams(TWO, beams), slow_is_beams(TWO, beams))
        # An upright at the very ends of both beams, and two beams at one height.
        for left, x, right in itertools.product(range(4), repeat=3):
            beams = ((("a", 0, 0, right), ("b", 1, left, 3)), (("a", "b", x),))
            self.is_bool(is_beams(TWO, beams), left <= x <= right)
        self.is_bool(is_beams(TWO, ((("a", 4, 0, 1), ("b", 4, 0, 1)), (("a", "b", 0),))), False)
        self.is_bool(is_beams(APART, ((("a", 4, 0, 1), ("b", 5, 0, 1), ("c", 4, 2, 3), ("d", 6, 2, 3)),
                                      (("a", "b", 0), ("c", "d", 2)))), False)

    def test_webs_that_fall_apart(self):
        beams = ((("a", 0, 0, 1), ("b", 2, 0, 1), ("c", 1, 2, 3), ("d", 3, 2, 3)), (("a", "b", 0), ("c", "d", 3)))
        self.is_bool(is_beams(APART, beams), True)
        self.assertEqual(order_of_beams(APART, beams), ("a", "c", "b", "d"))
        self.assertEqual(beams_of_lines(APART, *lines_of_beams(APART, beams)), beams)
        self.assertEqual(mirrored_beams(APART, beams)[1], (("a", "b", 3), ("c", "d", 0)))
        self.refuses(InvalidOperation, drawing_of_beams, APART, beams)
        self.refuses(InvalidBeams, drawing_of_beams, APART, (beams[0], beams[1][:1]))
        # A beam between two others is in the way only if the upright meets it.
        for left, right in itertools.product(range(4), repeat=2):
            between = ((("a", 0, 0, 3), ("b", 2, 0, 3), ("c", 1, left, right)), (("a", "b", 2),))
            web = Web(("a", "b", "c"), (("a", "b"),))
            self.is_bool(is_beams(web, between), left <= right and not left <= 2 <= right)
            above = ((("a", 0, 0, 3), ("b", 1, 0, 3), ("c", 2, left, right)), (("a", "b", 2),))
            self.is_bool(is_beams(web, above), left <= right)

    def test_near_beams(self):
        for value in bent(BEAMS):
            right = slow_is_beams(KITE, value)
            self.is_bool(is_beams(KITE, value), right)
            for order in (("a", "c", "d", "b"), ("b", "d", "c", "a")):
                tells = (right and slow_table(KITE, value) == drawn.table
                         and [level[1] for level in value[0]] == [order.index(place) for place in KITE.places]
                         and [(a, b) for a, b, x in value[1] if x == 0] == [("a", "b")])
                self.is_bool(are_beams_of(drawn, order, value), tells)
            if not right:
                for call in (drawing_of_beams, mirrored_beams, order_of_beams, lines_of_beams):
                    self.refuses(InvalidBeams, call, KITE, value)

    def test_other_beams_of_a_drawing(self):
        order = ("a", "c", "d", "b")
        wide = ((("a", 0, 0, 90), ("b", 3, 0, 1000), ("c", 1, 70, 500), ("d", 2, 300, 400)),
                (("a", "b", 0), ("a", "c", 80), ("b", "c", 90), ("b", "d", 300), ("c", "d", 400)))
        self.is_bool(are_beams_of(drawn, order, wide), slow_is_beams(KITE, wide))
        self.is_bool(are_beams_of(drawn, order, wide), True)
        high = (tuple((name, height + 1, left, right) for name, height, left, right in BEAMS[0]), BEAMS[1])
        self.is_bool(is_beams(KITE, high), True)
        self.is_bool(are_beams_of(drawn, order, high), False)
        # The tie of the ends is at 0, but not the only one.
        both = ((("a", 0, 0, 0), ("b", 2, 0, 1), ("c", 1, 0, 1)), (("a", "b", 0), ("a", "c", 0), ("b", "c", 1)))
        ring = drawing_of(full_web(("a", "b", "c")))
        self.is_bool(are_beams_of(ring, ("a", "c", "b"), both), False)
        # The tie of the ends is first, but not at 0.
        late = ((("a", 0, 1, 2), ("b", 2, 1, 2), ("c", 1, 2, 2)), (("a", "b", 1), ("a", "c", 2), ("b", "c", 2)))
        self.is_bool(is_beams(ring.web, late), True)
        self.is_bool(are_beams_of(ring, ("a", "c", "b"), late), False)
        # Another tie is at 0, alone, and that of the ends to the right.
        alone = ((("a", 0, 0, 2), ("b", 2, 1, 2), ("c", 1, 0, 1)), (("a", "b", 2), ("a", "c", 0), ("b", "c", 1)))
        self.is_bool(is_beams(ring.web, alone), True)
        self.assertEqual(drawing_of_beams(ring.web, alone), ring)
        self.is_bool(are_beams_of(ring, ("a", "c", "b"), alone), False)
        right = ((("a", 0, 0, 1), ("b", 2, 0, 1), ("c", 1, 0, 0)), (("a", "b", 1), ("a", "c", 0), ("b", "c", 0)))
        self.is_bool(is_beams(ring.web, right), True)
        self.is_bool(are_beams_of(ring, ("a", "c", "b"), right), False)


class Lines(Case):

    def test_lines(self):
        lines = lines_of_beams(KITE, BEAMS)
        self.assertEqual(lines, ("beam a 0 0 1", "beam b 3 0 2", "beam c 1 1 2", "beam d 2 2 2", "upright a b 0",
                                 "upright a c 1", "upright b c 1", "upright b d 2", "upright c d 2"))
        self.assertEqual(beams_of_lines(KITE, *lines[::-1]), BEAMS)
        for k in range(len(lines)):
            self.refuses(InvalidBeams, beams_of_lines, KITE, *lines[:k], *lines[k + 1:])
            self.refuses(ParseError, beams_of_lines, KITE, *lines, lines[k], number=9)
        self.refuses(InvalidBeams, beams_of_lines, KITE)
        self.refuses(InvalidBeams, beams_of_lines, FOUR, *lines)
        self.refuses(InvalidBeams, beams_of_lines, KITE, *lines, "beam zz 9 9 9")
        self.refuses(InvalidBeams, beams_of_lines, KITE, *lines, "upright a d 1")
        # The same beam or upright with other numbers is told again, too; also of what the web has not.
        self.refuses(ParseError, beams_of_lines, KITE, *lines, "beam c 7 7 7", number=9)
        self.refuses(ParseError, beams_of_lines, KITE, *lines, "upright c d 7", number=9)
        self.refuses(ParseError, beams_of_lines, KITE, "upright x y 1", "upright x y 2", number=1)
        self.refuses(ParseError, beams_of_lines, KITE, "beam x 1 1 1", "beam x 2 2 2", number=1)

    def test_wrong_lines(self):
        wrong = ["", "beam", "beam a 0 0", "beam a 0 0 1 2", "beam a 0  0 1", " beam a 0 0 1", "beam a 0 0 1 ",
                 "beam a 0 0 -1", "beam a +1 0 1", "beam a 00 0 1", "beam a 0 01 1", "beam a 0 0 1.", "beam a 0 0 x",
                 "beam A 0 0 1", "beam ab1 0 0 1", "beam abcdefghi 0 0 1", "Beam a 0 0 1", "beam a b 0 0", "beam 0 a 0 0",
                 "beam a 0 0 1\n", "beam\na 0 0 1", "upright a b", "upright b a 0", "upright a a 0", "upright a b 0 0",
                 "upright a 0", "upright a b 00", "upright a b -1", "upright a b c", "upright a B 0", "level a 0 0 1",
                 "upright a b " + "1" * 61, "beam a 0 0 " + "9" * 61, "beam a " + "0" * 60 + " 0 0", "beam a 1_0 0 0",
                 "upright 1 b 0", "beam  0 0 0", "upright a  0", "beam a 0 0 \u00b2", *WRONG, *OBJECTS]
        for line in wrong:
            self.refuses(ParseError, beams_of_lines, KITE, line, number=0)
            self.refuses(ParseError, beams_of_lines, KITE, "beam a 0 0 1", line, None, number=1)
        # Sixty figures are a number, and too great for beams.
        for line in ("beam a 0 0 " + "9" * 60, "upright a b " + "1" * 60, "beam a 0 0 1001", "beam a 1001 0 0"):
            self.refuses(InvalidBeams, beams_of_lines, TWO, line)
        self.assertEqual(beams_of_lines(ONE, "beam a 1000 0 1000"), ((("a", 1000, 0, 1000),), ()))

    def test_order_of_errors(self):
        for value in not_webs():
            self.refuses(InvalidWeb, beams_of_lines, value, None)
            for call in (is_beams, drawing_of_beams, mirrored_beams, order_of_beams, lines_of_beams):
                self.refuses(InvalidWeb, call, value, None)
        self.refuses(ParseError, beams_of_lines, APART, "beam a 9999 0 0", "beam a", number=1)


class Wrong(Case):

    def test_wrong_beams(self):
        for value in [*WRONG, *OBJECTS, BEAMS[0], BEAMS[:1], list(BEAMS), (BEAMS[0], list(BEAMS[1])), BEAMS[::-1],
                      (None, BEAMS[1]), (BEAMS[0], None), (BEAMS[0], ()), ((), BEAMS[1]), ((), ()),
                      (BEAMS[0][::-1], BEAMS[1]), (BEAMS[0] + (("d", 9, 2, 2),), BEAMS[1]),
                      (BEAMS[0], BEAMS[1] + (("c", "d", 2),)), (BEAMS[0], BEAMS[1] + (("a", "d", 1),))]:
            self.is_bool(is_beams(KITE, value), False)
            self.is_bool(are_beams_of(drawn, ("a", "c", "d", "b"), value), False)
            for call in (drawing_of_beams, mirrored_beams, order_of_beams, lines_of_beams):
                self.refuses(InvalidBeams, call, KITE, value)

    def test_wrong_drawings_and_orders(self):
        for value in not_drawings():
            self.refuses(InvalidDrawing, beams_of, value, None)
            self.refuses(InvalidDrawing, are_beams_of, value, None, None)
        rows = [("a", "c", "b", "d"), ("a", "b", "c"), ("a", "b", "c", "c"), ("d", "b", "c", "a"), ["a", "c", "d", "b"],
                ("a", "c", "d", "x"), ("x", "c", "d", "b"), ("a", "d", "c", "b"), ("a",), ("a", "b"), *WRONG, *OBJECTS]
        for order in rows:
            self.refuses(InvalidOrder, beams_of, drawn, order)
            self.refuses(InvalidOrder, are_beams_of, drawn, order, None)
        for web in (ONE, TWO, BOW):
            one = drawing_of(web)
            for order in (web.places, (), None, ("a", "b"), ("a", "b", "c", "d", "e", "f")):
                self.refuses(InvalidOrder, beams_of, one, order)
                self.refuses(InvalidOrder, are_beams_of, one, order, None)

    def test_nothing_changes(self):
        table = drawn.table
        beams_of(drawn, ("a", "c", "d", "b"))
        self.assertEqual((drawn.table, drawn.web, HOUSES.places), (table, KITE, tuple("abcdef")))
