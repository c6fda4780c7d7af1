"""[17.1] to [17.3]: a bench."""

import itertools
import random

from flatwebs.base.drawings import Drawing
from flatwebs.base.webs import Web, full_web, ring_web
from flatwebs.draw.bars import drawing_of
from flatwebs.draw.counted import count_drawings, drawing_at, each_drawing, flipped, flips_of, number_of
from flatwebs.errors import (
    InvalidDrawing, InvalidFlip, InvalidNumber, InvalidOperation, InvalidPlace, InvalidRim, InvalidTie, NothingToUndo,
    Refused, TooMany, UnknownName, WebError)
from flatwebs.use.bench import MAX_PLEDGES, Bench, is_pledge, split_at, together_at
from tests.samples import (
    APART, BOW, CUBE, FOUR, GLUED, KITE, OBJECTS, OCTA, ONE, PRISM, SIX, THREE, TWELVE, TWENTY, TWO, WHEEL, WRONG,
    Case, bent, blocks_on, flat, not_drawings, slow_is_block, triangulated, woven_webs)

TRIANGLE = Drawing.from_rims(("a", "b", "c"), ("a", "c", "b"))
DRAWINGS = [TRIANGLE, flat, SIX, TWENTY, triangulated(8, 7), triangulated(11, 8),
            *map(drawing_of, [KITE, WHEEL, PRISM, GLUED, OCTA, CUBE, THREE, ring_web(tuple("adbc"))]),
            *[drawing for web in blocks_on(4) + blocks_on(5)[::6] for drawing in itertools.islice(each_drawing(web), 2)],
            *[drawing for drawing in map(drawing_of, woven_webs(8, 10, 121)) if drawing]]
RIGHT = [("held",), ("triangulated",), ("even",), ("outer",), ("least", 0), ("most", 7), ("least", 10 ** 60 - 1),
         ("rim", ("a", "c", "b")), ("rim", TWELVE), ("tied", "a", "b"), ("tied", "z", "a"),
         ("rim", ("a", "z", "y", "x"))]
SQUARE = ("a", "c", "d", "b")


def from_least(row):
    return min(row[k:] + row[:k] for k in range(len(row)))


def slow_is_pledge(value):
    """[17.3], as it is told."""
    def is_name(word):
        return type(word) is str and 1 <= len(word) <= 8 and set(word) <= set("abcdefghijklmnopqrstuvwxyz")
    if value in (("held",), ("triangulated",), ("even",), ("outer",)):
        return type(value) is tuple
    if type(value) is not tuple or len(value) not in (2, 3) or type(value[0]) is not str:
        return False
    if len(value) == 3:
        return value[0] == "tied" and is_name(value[1]) and is_name(value[2]) and value[1] != value[2]
    if value[0] in ("least", "most"):
        return type(value[1]) is int and 0 <= value[1] < 10 ** 60
    rim = value[1]
    return (value[0] == "rim" and type(rim) is tuple and len(rim) > 2 and all(map(is_name, rim))
            and len(set(rim)) == len(rim) and rim == from_least(rim))


def does_hold(drawing, pledge):
    """[17.3], as it is told."""
    web = drawing.web
    pairs = itertools.combinations(web.places, 2)
    return {"held": lambda: len(web) > 3 and all((web - pair).hangs for pair in pairs),
            "triangulated": lambda: len(web) > 2 and {len(rim) for rim in drawing} == {3},
            "even": lambda: not any(len(web.neighbours(place)) % 2 for place in web.places),
            "outer": lambda: any(set(rim) == set(web.places) for rim in drawing),
            "least": lambda: len(drawing) >= pledge[1], "most": lambda: len(drawing) <= pledge[1],
            "rim": lambda: pledge[1] in drawing,
            "tied": lambda: tuple(sorted(pledge[1:])) in web}[pledge[0]]()


def slow_split(drawing, place, name, first, last):
    """A split, told by the rims: at each corner of the place one walks along the old one, the new one, or both."""
    near = drawing.round_at(place)
    at = near.index(first)
    row = near[at:] + near[:at]
    taken = row[:row.index(last) + 1]
    rims = []
    for rim in drawing.rims:
        walk = ()
        for u, p, w in zip(rim[-1:] + rim[:-1], rim, rim[1:] + rim[:1]):
            if p != place:
                walk += (p,)
            elif u in taken:
                walk += (name,) if w in taken else (name, place)
            else:
                walk += (place, name) if w in taken else (place,)
        rims.append(walk)
    return Drawing.from_rims(*rims)


def slow_together(drawing, a, b):
    """Two places drawn together, told by the rims: those of three places with both are there no more."""
    rims = []
    for rim in drawing.rims:
        walk = tuple(a if place == b else place for place in rim)
        walk = tuple(one for one, other in zip(walk, walk[1:] + walk[:1]) if one != other)
        if len(walk) > 2:
            rims.append(walk)
    return Drawing.from_rims(*rims)


def can_be_together(drawing, a, b):
    thirds = [(set(rim) - {a, b}).pop() for rim in drawing.rims if len(rim) == 3 and {a, b} <= set(rim)]
    return set(drawing.web.common(a, b)) <= set(thirds) and slow_is_block(drawing.web.drawn_together(a, b))


def news(one, other):
    return (tuple(rim for rim in one if rim not in other), tuple(rim for rim in other if rim not in one))


def kept(bench):
    """All that can be seen of a bench but what can be done again."""
    return (bench.drawing, bench.web, bench.pledges, bench.changes, list(bench), len(bench), str(bench))


def history(bench):
    """All that can be seen of a bench, also by taking back all and doing all again, in a twin."""
    twin = bench.twin()
    rows = [kept(twin)]
    while twin.changes:
        twin.undo()
        rows.append(kept(twin))
    while True:
        try:
            twin.redo()
        except NothingToUndo:
            return rows
        rows.append(kept(twin))


class Examples(Case):

    def test_examples(self):
        bench = Bench(flat)
        self.assertEqual(
            [bench.demand(("tied", "b", "c")), bench.strike("a", "d"),
             bench.tie("a", "d", ("a", "c", "d", "b")) == bench.undo(), str(bench)],
            [((), ()), ((("a", "c", "d"), ("a", "d", "b")), (("a", "c", "d", "b"),)), False,
             "bench of 4 places, 5 ties, 3 rims, 1 pledges"])
        self.refuses(Refused, bench.strike, "b", "c", pledge=("tied", "b", "c"))
        self.assertEqual(
            [bench.undo(), bench.split("d", "e", "a", "b"), bench.drawing.lines, bench.merge("d", "e")[1] == flat.rims[1:],
             bench.drawing == flat],
            [((("a", "c", "d", "b"),), (("a", "c", "d"), ("a", "d", "b"))),
             ((("a", "c", "d"), ("a", "d", "b"), ("b", "d", "c")),
              (("a", "c", "d", "e"), ("a", "e", "b"), ("b", "e", "d", "c"))),
             ("a: b e c", "b: a c e", "c: a d b", "d: c e", "e: a b d"), True, True])


class Pledges(Case):

    def test_pledges(self):
        self.assertEqual(MAX_PLEDGES, 10)
        for value in RIGHT:
            self.is_bool(is_pledge(value), True)
            for other in bent(value):
                self.is_bool(is_pledge(other), slow_is_pledge(other))
        for value in [*WRONG, *OBJECTS, ("least",), ("least", True), ("most", False), ("least", -1), ("most", 10 ** 60),
                      ("rim", ("b", "a", "c")), ("rim", ("a", "b")), ("rim", ["a", "b", "c"]), ("rim", ("a", "b", "a")),
                      ("rim", ()), ("tied", "a", "a"), ("tied", "a"), ("tied", "a", "b", "c"), ("tied", "A", "b"),
                      ("held", 1), ("held", ()), "held", ["held"], (("held",),), ("Held",), ("least", 1, 2), ("loose",),
                      ("rim", "a", "b", "c"), ("even", "even"), (None,), ("least", "3"), ("least", (3,)), ("rim", None)]:
            self.is_bool(is_pledge(value), slow_is_pledge(value))
            self.is_bool(is_pledge(value), False)


class Splits(Case):

    def test_splits(self):
        for drawing in DRAWINGS:
            web = drawing.web
            if len(web) == 12:
                continue
            for place in web.places:
                for first, last in itertools.product(web.neighbours(place), repeat=2):
                    near = drawing.round_at(place)
                    many = (near.index(last) - near.index(first)) % len(near) + 1
                    if many == len(near):
                        self.refuses(InvalidOperation, split_at, drawing, place, "zz", first, last)
                        continue
                    found = split_at(drawing, place, "zz", first, last)
                    self.assertEqual(found, slow_split(drawing, place, "zz", first, last))
                    self.assertEqual(len(found.round_at("zz")), many + 1)
                    self.assertEqual(found.behind("zz", place), first)
                    self.assertEqual(found.behind("zz", last), place)
                    self.assertEqual((len(found.web), len(found.web.ties), len(found)), (
                        len(web) + 1, len(web.ties) + 1, len(drawing)))
                    self.assertTrue(slow_is_block(found.web))
                    # [17.2]: drawn together again, and with the new name in the place of the old one.
                    self.assertEqual(together_at(found, place, "zz"), drawing)
                    names = {one: one for one in web.places}
                    self.assertEqual(together_at(found, "zz", place), drawing.renamed({**names, place: "zz"}))

    def test_drawn_together(self):
        counts = {True: 0, False: 0}
        for drawing in DRAWINGS:
            for a, b in [*drawing.web.ties, *[(b, a) for a, b in drawing.web.ties]]:
                right = can_be_together(drawing, a, b)
                counts[right] += 1
                if right:
                    found = together_at(drawing, a, b)
                    self.assertEqual(found, slow_together(drawing, a, b))
                    self.assertEqual(found.web, drawing.web.drawn_together(a, b))
                else:
                    self.refuses(InvalidOperation, together_at, drawing, a, b)
        self.assertGreater(min(counts.values()), 50)

    def test_splits_back(self):
        # Who draws two places together that have no common neighbours can split them again.
        for drawing in DRAWINGS:
            for a, b in drawing.web.ties:
                if can_be_together(drawing, a, b) and not drawing.web.common(a, b):
                    near = drawing.round_at(b)
                    row = near[near.index(a) + 1:] + near[:near.index(a)]
                    self.assertEqual(split_at(together_at(drawing, a, b), a, b, row[0], row[-1]), drawing)

    def test_stretches_past_the_end(self):
        hub = drawing_of(WHEEL)
        self.assertEqual(hub.round_at("h"), ("a", "b", "c", "d") if hub.behind("h", "a") == "b" else ("a", "d", "c", "b"))
        near = hub.round_at("h")
        found = split_at(hub, "h", "i", near[3], near[0])
        self.assertEqual([found.round_at("h"), found.round_at("i")], [from_least(("i", *near[1:3])), from_least(
            ("h", near[3], near[0]))])
        # One neighbour, all but one, and all in two ways.
        self.assertEqual(split_at(hub, "h", "i", near[2], near[2]).round_at("i"), from_least(("h", near[2])))
        self.assertEqual(split_at(hub, "h", "i", near[1], near[3]).round_at("h"), from_least(("i", near[0])))
        self.refuses(InvalidOperation, split_at, hub, "h", "i", near[0], near[3])
        self.refuses(InvalidOperation, split_at, hub, "h", "i", near[2], near[1])

    def test_errors_of_splits(self):
        for value in not_drawings():
            self.refuses(InvalidDrawing, split_at, value, None, None, None, None)
            self.refuses(InvalidDrawing, together_at, value, None, None)
        for web in (ONE, TWO, BOW, Web.of_ties(("a", "b"), ("b", "c"))):
            self.refuses(InvalidOperation, split_at, drawing_of(web), None, None, None, None)
            self.refuses(InvalidOperation, together_at, drawing_of(web), None, None)
        for value in ["x", "ab", *WRONG, *OBJECTS]:
            self.refuses(UnknownName, split_at, flat, value, "a", "a", "a", word=value)
            self.refuses(UnknownName, together_at, flat, value, "zz", word=value)
            self.refuses(UnknownName, together_at, flat, "a", value, word=value)
            self.refuses(InvalidTie, split_at, flat, "a", "e", value, None)
            self.refuses(InvalidTie, split_at, flat, "a", "e", "b", value)
        for value in ["a", "b", "c", "d", *WRONG, *OBJECTS]:
            self.refuses(InvalidPlace, split_at, flat, "a", value, "a", "a")
        self.refuses(InvalidTie, split_at, flat, "a", "e", "a", "b")
        self.refuses(InvalidTie, split_at, flat, "a", "e", "b", "a")
        kite = drawing_of(KITE)
        self.refuses(InvalidTie, split_at, kite, "a", "e", "d", "b")
        self.refuses(InvalidTie, together_at, kite, "a", "d")
        self.refuses(InvalidTie, together_at, kite, "a", "a")
        # All neighbours are told ahead of twelve places.
        near = TWENTY.round_at("a")
        self.refuses(InvalidOperation, split_at, TWENTY, "a", "m", near[1], near[0])
        self.refuses(TooMany, split_at, TWENTY, "a", "m", near[0], near[1], limit=12)
        self.refuses(InvalidPlace, split_at, TWENTY, "a", "b", near[0], near[1])
        self.refuses(InvalidTie, split_at, TWENTY, "a", "m", near[0], "l")

    def test_no_block_left(self):
        for drawing, a, b in ((TRIANGLE, "a", "b"), (drawing_of(KITE), "b", "c"), (drawing_of(GLUED), "a", "b")):
            self.refuses(InvalidOperation, together_at, drawing, a, b)
        # Each common neighbour makes a rim with the two, but not all three of them do.
        three = drawing_of(THREE.with_tie("a", "b"))
        self.refuses(InvalidOperation, together_at, three, "a", "b")
        self.assertEqual(together_at(drawing_of(KITE), "a", "b").web, Web.of_ties(("a", "c"), ("a", "d"), ("c", "d")))


class Changes(Case):

    def test_changes(self):
        start = drawing_of(PRISM)
        bench = Bench(start)
        rim = [rim for rim in start.rims if {"a", "e"} <= set(rim)][0]
        steps = [(bench.tie, ("a", "e", rim)), (bench.turn, ()), (bench.strike, ("e", "a")), (bench.redraw, (1,)),
                 (bench.redraw, (1,)), (bench.flip, (("mirror",),)), (bench.rename, ({p: p + "x" for p in "abcdef"},)),
                 (bench.split, ("ax", "z", "bx", "bx")), (bench.merge, ("ax", "z")), (bench.demand, (("held",),)),
                 (bench.waive, (("held",),))]
        for k, (call, args) in enumerate(steps):
            before = bench.drawing
            told = call(*args)
            self.assertEqual(told, news(before, bench.drawing))
            self.assertEqual(bench.changes, k + 1)
        last = bench.drawing
        self.assertEqual(bench.undo(many=11), news(last, start))
        self.assertEqual([bench.drawing, bench.changes], [start, 0])
        self.assertEqual(bench.redo(many=11), news(start, last))
        self.assertEqual([bench.drawing, bench.changes], [last, 11])

    def test_one_step_each(self):
        for drawing in DRAWINGS:
            web = drawing.web
            chance = random.Random(str(drawing.lines))
            for rim in drawing.rims:
                for a, b in itertools.combinations(rim, 2):
                    if not web.is_tied(a, b):
                        bench = Bench(drawing)
                        self.assertEqual(bench.tie(a, b, rim), news(drawing, drawing.tied_within(a, b, rim)))
                        self.assertEqual(bench.drawing, drawing.tied_within(a, b, rim))
                        bench.strike(a, b)
                        self.assertEqual(bench.drawing, drawing)
            for a, b in web.ties:
                bench = Bench(drawing)
                if slow_is_block(web.without_tie(a, b)):
                    self.assertEqual(bench.strike(a, b), news(drawing, drawing.without_tie(a, b)))
                    self.assertEqual(bench.drawing, drawing.without_tie(a, b))
                else:
                    self.refuses(InvalidOperation, bench.strike, a, b)
                    self.assertEqual([bench.drawing, bench.changes], [drawing, 0])
            bench = Bench(drawing)
            for number in range(min(5, count_drawings(web))):
                before = bench.drawing
                self.assertEqual(bench.redraw(number), news(before, drawing_at(web, number)))
                self.assertEqual(number_of(bench.drawing), number)
            for flip in flips_of(drawing)[:5]:
                bench = Bench(drawing)
                self.assertEqual(bench.flip(flip), news(drawing, flipped(drawing, flip)))
                self.assertEqual(bench.drawing, flipped(drawing, flip))
                self.assertEqual(bench.undo(), news(flipped(drawing, flip), drawing))
            self.assertEqual(Bench(drawing).turn(), news(drawing, drawing.mirror))
            names = dict(zip(web.places, chance.sample([f"n{p}" for p in web.places], len(web))))
            bench = Bench(drawing)
            self.assertEqual(bench.rename(names), news(drawing, drawing.renamed(names)))
            self.assertEqual(bench.drawing, drawing.renamed(names))

    def test_errors_of_changes(self):
        kite = flat.without_tie("a", "d")
        bench = Bench(kite)
        bench.turn()
        bench.turn()
        bench.undo()
        before = history(bench)
        mirror = bench.drawing
        square = [rim for rim in mirror.rims if len(rim) == 4][0]
        three = [rim for rim in mirror.rims if len(rim) == 3][0]
        for value in ["x", *WRONG, *OBJECTS]:
            self.refuses(UnknownName, bench.tie, value, None, None, word=value)
            self.refuses(UnknownName, bench.tie, "a", value, None, word=value)
            self.refuses(UnknownName, bench.strike, value, None, word=value)
            self.refuses(UnknownName, bench.strike, "a", value, word=value)
            self.refuses(UnknownName, bench.split, value, None, None, None, word=value)
            self.refuses(UnknownName, bench.merge, value, None, word=value)
            self.refuses(UnknownName, bench.merge, "a", value, word=value)
        for value in [*WRONG, *OBJECTS, three, square[::-1], list(square), square[1:] + square[:1]]:
            self.refuses(InvalidRim, bench.tie, "a", "d", value)
            self.refuses(InvalidOperation, bench.rename, value)
            self.refuses(InvalidOperation, bench.demand, value)
            self.refuses(InvalidOperation, bench.waive, value)
            self.refuses(InvalidFlip, bench.flip, value)
            self.refuses(InvalidPlace, bench.split, "a", value if value != "" else "a", "x", "x")
        self.refuses(InvalidTie, bench.tie, "b", "c", square)
        self.refuses(InvalidTie, bench.tie, "b", "b", square)
        self.refuses(InvalidTie, bench.strike, "a", "d")
        self.refuses(InvalidOperation, bench.strike, "a", "b")
        self.refuses(InvalidTie, bench.split, "a", "e", "d", "b")
        self.refuses(InvalidOperation, bench.split, "a", "e", "b", "c")
        self.refuses(InvalidTie, bench.merge, "a", "d")
        self.refuses(InvalidOperation, bench.merge, "b", "c")
        self.refuses(InvalidFlip, bench.flip, ("mirror",))
        for value in [-1, 2, 10 ** 60, *[one for one in WRONG if one is None or type(one) is not int], *OBJECTS]:
            self.refuses(InvalidNumber, bench.redraw, value, value=value)
        for names in ({"a": "b", "b": "a", "c": "c"}, {**dict(zip("abcd", "abcc"))}, {**dict(zip("abcd", "bcdA"))},
                      {**dict(zip("abcde", "bcdea"))}):
            self.refuses(InvalidOperation, bench.rename, names)
        self.assertEqual(history(bench), before)
        self.assertEqual(bench.redo(), news(mirror, kite))

    def test_wrong_benches(self):
        for value in not_drawings():
            self.refuses(InvalidDrawing, Bench, value)
        for web in (ONE, TWO, BOW):
            self.refuses(InvalidOperation, Bench, drawing_of(web))
        self.refuses(InvalidDrawing, Bench, Bench(flat))

    def test_great_bench(self):
        # Twelve places and as many ties as they can have.
        bench = Bench(TWENTY)
        self.assertEqual(str(bench), "bench of 12 places, 30 ties, 20 rims, 0 pledges")
        near = TWENTY.round_at("a")
        self.refuses(TooMany, bench.split, "a", "m", near[0], near[0], limit=12)
        rim = TWENTY.rims[0]
        self.refuses(InvalidTie, bench.tie, rim[0], rim[1], rim)
        for a, b in TWENTY.web.ties:
            self.assertEqual(len(bench.strike(a, b)[0]), 2)
            bench.undo()
        self.assertEqual(bench.changes, 0)


class Demands(Case):

    def test_demands(self):
        for drawing in DRAWINGS:
            bench = Bench(drawing)
            web = drawing.web
            asked = [("held",), ("triangulated",), ("even",), ("outer",), ("least", len(drawing)),
                     ("least", len(drawing) + 1), ("most", len(drawing)), ("most", len(drawing) - 1), ("least", 0),
                     ("rim", drawing.rims[0]), ("rim", from_least(drawing.rims[0][::-1])), ("tied", *web.ties[0]),
                     ("tied", *web.ties[0][::-1]), ("tied", web.places[0], "zz")]
            holding = []
            for pledge in asked:
                if does_hold(drawing, pledge) and len(holding) < 10:
                    self.assertEqual(bench.demand(pledge), ((), ()))
                    holding.append(pledge)
                elif len(holding) == 10:
                    self.refuses(TooMany, bench.demand, pledge, limit=10)
                else:
                    self.refuses(Refused, bench.demand, pledge, pledge=pledge)
            self.assertEqual([bench.pledges, len(bench), bench.changes], [tuple(holding), len(holding), len(holding)])
            for pledge in holding:
                self.is_bool(pledge in bench, True)
                self.refuses(InvalidOperation, bench.demand, pledge)
            for pledge in holding[::2]:
                self.assertEqual(bench.waive(pledge), ((), ()))
                self.is_bool(pledge in bench, False)
                self.refuses(InvalidOperation, bench.waive, pledge)
            self.assertEqual(bench.pledges, tuple(holding[1::2]))

    def test_ten_pledges_and_one_more(self):
        bench = Bench(flat)
        for many in range(10):
            bench.demand(("most", 4 + many))
        # One that is none, or there already, is told ahead of too many, and this ahead of one that would not hold.
        for value in (("most", 4), ("least", True), None, ("rim", ("b", "a", "c"))):
            self.refuses(InvalidOperation, bench.demand, value)
        self.refuses(TooMany, bench.demand, ("even",), limit=10)
        self.refuses(TooMany, bench.demand, ("held",), limit=10)
        self.assertEqual([len(bench), bench.changes], [10, 10])
        bench.waive(("most", 9))
        self.refuses(Refused, bench.demand, ("even",), pledge=("even",))
        bench.demand(("held",))
        self.assertEqual(bench.pledges, tuple(("most", many) for many in (4, 5, 6, 7, 8, 10, 11, 12, 13)) + (("held",),))

    def test_refused_changes(self):
        # Of all pledges that would not hold, the first one is told; nothing changes.
        for drawing in DRAWINGS[::2]:
            for order in ((0, 1, 2, 3, 4, 5), (5, 4, 3, 2, 1, 0)):
                asked = [("held",), ("triangulated",), ("outer",), ("least", len(drawing)), ("most", len(drawing)),
                         ("rim", drawing.rims[-1])]
                bench = Bench(drawing)
                for k in order:
                    if does_hold(drawing, asked[k]):
                        bench.demand(asked[k])
                before = history(bench)
                for call, args, later in possible_changes(drawing):
                    broken = [pledge for pledge in bench.pledges if not does_hold(later, pledge)]
                    if broken:
                        self.refuses(Refused, getattr(bench, call), *args, pledge=broken[0])
                        self.assertEqual(history(bench), before)
                    else:
                        twin = bench.twin()
                        self.assertEqual(getattr(twin, call)(*args), news(drawing, later))
                        self.assertEqual([twin.drawing, twin.pledges], [later, bench.pledges])

    def test_true_in_the_place_of_one(self):
        bench = Bench(flat)
        bench.demand(("least", 1))
        bench.demand(("least", 0))
        for value in (("least", True), ("least", False), ["least", 1], ("least", 1, 1)):
            self.is_bool(value in bench, False)
            self.refuses(InvalidOperation, bench.waive, value)
            self.refuses(InvalidOperation, bench.demand, value)
        self.assertEqual(bench.pledges, (("least", 1), ("least", 0)))
        bench.waive(("least", 1))
        self.assertEqual(bench.pledges, (("least", 0),))

    def test_renamed_pledges(self):
        bench = Bench(flat)
        for pledge in (("rim", ("a", "d", "b")), ("tied", "b", "a"), ("tied", "a", "b"), ("held",), ("least", 4)):
            bench.demand(pledge)
        bench.rename({"a": "z", "b": "y", "c": "c", "d": "a"})
        self.assertEqual(bench.pledges, (("rim", ("a", "y", "z")), ("tied", "y", "z"), ("tied", "z", "y"), ("held",),
                                         ("least", 4)))
        self.assertTrue(all(does_hold(bench.drawing, pledge) for pledge in bench.pledges))
        self.refuses(Refused, bench.strike, "z", "y", pledge=("rim", ("a", "y", "z")))
        bench.undo()
        self.assertEqual(bench.pledges[:2], (("rim", ("a", "d", "b")), ("tied", "b", "a")))
        bench.redo()
        self.assertEqual(bench.pledges[:2], (("rim", ("a", "y", "z")), ("tied", "y", "z")))
        self.refuses(InvalidOperation, bench.waive, ("tied", "a", "b"))


def possible_changes(drawing):
    """Some changes of a bench with a drawing, and the drawings behind them."""
    web = drawing.web
    yield "turn", (), drawing.mirror
    for number in range(min(3, count_drawings(web))):
        yield "redraw", (number,), drawing_at(web, number)
    for rim in drawing.rims[:4]:
        for a, b in itertools.combinations(rim, 2):
            if not web.is_tied(a, b):
                yield "tie", (a, b, rim), drawing.tied_within(a, b, rim)
    for a, b in web.ties[:5]:
        if slow_is_block(web.without_tie(a, b)):
            yield "strike", (a, b), drawing.without_tie(a, b)
        if can_be_together(drawing, b, a):
            yield "merge", (b, a), together_at(drawing, b, a)
    for place in web.places[:3]:
        first = drawing.round_at(place)[-1]
        if len(web) < 12:
            name = [name for name in ("zz", "zy", "zx", *TWELVE) if name not in web.places][0]
            yield "split", (place, name, first, first), split_at(drawing, place, name, first, first)


class Undone(Case):

    def test_all_taken_back_and_done_again(self):
        chance = random.Random(122)
        for drawing in DRAWINGS[::3]:
            bench = Bench(drawing)
            rows = [kept(bench)]
            # A model of the bench: all states in a row, and the index of the present one.
            at = 0
            for _ in range(40):
                choice = chance.randrange(9)
                before = bench.drawing
                if choice < 2 and at:
                    many = chance.randint(0, at)
                    told = bench.undo(many=many)
                    at -= many
                elif choice < 4:
                    many = chance.randint(0, len(rows) - 1 - at)
                    told = bench.redo(many=many)
                    at += many
                elif choice < 5:
                    pledge = chance.choice((("least", chance.randrange(3)), ("tied", *bench.web.ties[0]), ("most", 20)))
                    told = (bench.waive if pledge in bench else bench.demand)(pledge)
                    rows = rows[:at + 1] + [kept(bench)]
                    at += 1
                else:
                    call, args, _ = chance.choice(list(possible_changes(bench.drawing)))
                    try:
                        told = getattr(bench, call)(*args)
                    except Refused:
                        self.assertEqual(kept(bench)[:3], rows[at][:3])
                        continue
                    rows = rows[:at + 1] + [kept(bench)]
                    at += 1
                self.assertEqual(told, news(before, bench.drawing))
                self.assertEqual(kept(bench), rows[at])
                self.assertEqual(bench.changes, at)
                self.refuses(NothingToUndo, lambda: bench.undo(many=at + 1), many=at + 1)
                self.refuses(NothingToUndo, lambda: bench.redo(many=len(rows) - at), many=len(rows) - at)
            self.assertEqual(history(bench), rows[at::-1] + rows[1:])

    def test_undo_by_number(self):
        bench = Bench(flat)
        bench.turn()
        bench.turn()
        bench.strike("a", "b")
        self.assertEqual(bench.undo(many=0), ((), ()))
        self.assertEqual(bench.redo(many=0), ((), ()))
        self.assertEqual(bench.changes, 3)
        for value in [-1, 10 ** 60, *[one for one in WRONG if one is None or type(one) is not int], *OBJECTS]:
            self.refuses(InvalidNumber, lambda one: bench.undo(many=one), value, value=value)
            self.refuses(InvalidNumber, lambda one: bench.redo(many=one), value, value=value)
        self.refuses(InvalidNumber, lambda: bench.undo(many=True), value=True)
        self.refuses(InvalidNumber, lambda: bench.redo(many=False), value=False)
        self.refuses(NothingToUndo, lambda: bench.undo(many=4), many=4)
        self.refuses(NothingToUndo, bench.redo, many=1)
        self.refuses(TypeError, bench.undo, 1)
        self.refuses(TypeError, bench.redo, 1)
        # Two turns are none.
        self.assertEqual(bench.undo(many=3), news(flat.without_tie("a", "b"), flat))
        self.refuses(NothingToUndo, bench.undo, many=1)
        self.refuses(NothingToUndo, lambda: bench.redo(many=4), many=4)
        self.assertEqual(bench.redo(many=2), ((), ()))
        self.assertEqual(bench.changes, 2)
        # A change behind taken-back ones: these cannot be done again.
        bench.demand(("held",))
        self.refuses(NothingToUndo, bench.redo, many=1)
        # A change that is refused leaves them.
        bench.undo()
        self.refuses(WebError, lambda: self.raise_again(lambda: bench.strike("a", "x")))
        self.refuses(InvalidOperation, bench.demand, ("held", 1))
        self.assertEqual(bench.redo(), ((), ()))
        self.assertEqual(bench.pledges, (("held",),))
        self.refuses(Refused, bench.strike, "a", "b", pledge=("held",))

    def raise_again(self, call):
        try:
            call()
        except UnknownName:
            raise WebError("as it should be")

    def test_changes_that_leave_all_equal(self):
        bench = Bench(TRIANGLE)
        number = number_of(TRIANGLE)
        self.assertEqual([bench.redraw(number), bench.rename({name: name for name in "abc"})], [((), ())] * 2)
        self.assertEqual([bench.changes, bench.drawing], [2, TRIANGLE])
        self.assertEqual(bench.turn(), news(TRIANGLE, TRIANGLE.mirror))


class Trials(Case):

    def test_trials(self):
        bench = Bench(flat)
        bench.strike("a", "b")
        bench.demand(("least", 3))
        bench.undo()
        before = history(bench)
        with bench.trial() as same:
            self.assertIs(same, bench)
            self.assertEqual(history(bench), before)
            same.undo()
            same.demand(("held",))
            same.turn()
            self.assertEqual([bench.pledges, bench.changes], [(("held",),), 2])
            inside = history(bench)
            with bench.trial() as again:
                again.waive(("held",))
                again.strike("a", "c")
                again.undo(many=3)
                self.assertIs(again, bench)
            self.assertEqual(history(bench), inside)
            with self.assertRaises(Refused):
                with bench.trial():
                    bench.turn()
                    bench.strike("a", "c")
            self.assertEqual(history(bench), inside)
        self.assertEqual(history(bench), before)
        bench.redo()
        self.assertEqual(bench.pledges, (("least", 3),))

    def test_errors_within_trials(self):
        bench = Bench(flat)
        bench.turn()
        before = history(bench)
        for error in (KeyError, ZeroDivisionError, InvalidOperation, KeyboardInterrupt):
            with self.assertRaises(error):
                with bench.trial() as same:
                    same.strike("a", "b")
                    raise error("on")
            self.assertEqual(history(bench), before)

    def test_state_on_entering(self):
        # What counts is what was there when the block was entered.
        bench = Bench(flat)
        trial = bench.trial()
        bench.strike("a", "b")
        with trial:
            bench.undo()
        self.assertEqual([bench.drawing, bench.changes], [flat.without_tie("a", "b"), 1])
        other = bench.trial()
        bench.turn()
        bench.undo(many=2)
        with other as same:
            same.redo(many=2)
        self.assertEqual([bench.drawing, bench.changes], [flat, 0])
        bench.redo(many=2)
        self.assertEqual(bench.changes, 2)

    def test_during(self):
        bench = Bench(flat)
        bench.demand(("held",))
        bench.undo()
        before = history(bench)

        def call(same):
            self.assertIs(same, bench)
            same.strike("a", "b")
            return same.during(lambda again: (again.undo(), again.changes, str(again))), same.changes
        told = bench.during(call)
        self.assertEqual(told, ((news(flat.without_tie("a", "b"), flat), 0, str(bench)), 1))
        self.assertEqual(history(bench), before)
        self.refuses(Refused, bench.during, lambda same: (same.redo(), same.strike("a", "b")), pledge=("held",))
        self.assertEqual(history(bench), before)
        self.assertIsNone(bench.during(lambda same: None))


class Others(Case):

    def test_properties(self):
        for drawing in DRAWINGS[:8]:
            bench = Bench(drawing)
            self.assertEqual([bench.drawing, bench.web, bench.pledges, bench.changes, len(bench)],
                             [drawing, drawing.web, (), 0, 0])
            self.assertEqual(list(bench), list(drawing.lines))
            self.assertEqual(list(bench), list(bench))
            self.assertTrue(all(line in bench for line in drawing.lines))
            self.assertEqual(str(bench), f"bench of {len(drawing.web)} places, {len(drawing.web.ties)} ties, "
                                         f"{len(drawing)} rims, 0 pledges")
            for name in ("drawing", "web", "pledges", "changes"):
                self.assertRaises(AttributeError, setattr, bench, name, None)

    def test_what_is_in_a_bench(self):
        bench = Bench(flat)
        bench.demand(("rim", ("a", "b", "c")))
        for value in [("a", "b", "c"), "a", ("a", "b"), ("held",), "a: b c d", "a: b d c ", *WRONG, *OBJECTS]:
            self.is_bool(value in bench, False)
        for value in ("a: b d c", ("rim", ("a", "b", "c"))):
            self.is_bool(value in bench, True)
        bench.waive(("rim", ("a", "b", "c")))
        bench.turn()
        self.assertEqual(["a: b c d" in bench, "a: b d c" in bench], [True, False])
        self.assertEqual(list(bench), list(flat.mirror.lines))

    def test_equal_benches(self):
        one, other = Bench(flat), Bench(Drawing(FOUR, flat.table))
        self.is_bool(one == other, True)
        self.is_bool(one != other, False)
        one.demand(("least", 1))
        self.is_bool(one == other, False)
        other.demand(("least", 0))
        other.demand(("least", 1))
        self.is_bool(one == other, False)
        other.waive(("least", 0))
        self.is_bool(one == other, True)
        one.demand(("least", 0))
        other.waive(("least", 1))
        other.demand(("least", 0))
        other.demand(("least", 1))
        self.is_bool(one == other, False)
        self.is_bool(Bench(flat) == Bench(flat.mirror), False)
        for value in [*WRONG, *OBJECTS]:
            self.is_bool(Bench(flat) == value, False)
            self.is_bool(Bench(flat) != value, True)

    def test_twins(self):
        bench = Bench(flat)
        bench.demand(("least", 2))
        bench.strike("a", "b")
        bench.turn()
        bench.undo()
        twin = bench.twin()
        before = history(bench)
        self.assertEqual(history(twin), before)
        self.is_bool(twin == bench, True)
        self.assertIsNot(twin, bench)
        twin.redo()
        twin.undo(many=3)
        twin.redraw(1)
        self.assertEqual(history(bench), before)
        changed = history(twin)
        bench.undo(many=2)
        bench.turn()
        self.assertEqual(history(twin), changed)
        with bench.trial():
            bench.twin().undo(many=bench.changes)
            bench.undo()
        self.assertEqual(bench.changes, 1)

    def test_nothing_is_shared(self):
        table = flat.table
        bench = Bench(flat)
        bench.drawing.table.clear()
        bench.strike("a", "b")
        self.assertEqual((flat.table, bench.undo()[1]), (table, news(flat.without_tie("a", "b"), flat)[1]))
        self.assertEqual(full_web(tuple("abcd")), bench.web)
        self.assertEqual(APART.places, tuple("abcd"))
