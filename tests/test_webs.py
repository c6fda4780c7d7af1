"""[0.7], [0.8] and [2.1]: webs."""

import itertools

from flatwebs.base import webs
from flatwebs.base.webs import Web, full_web, ring_web
from flatwebs.errors import (
    InvalidOperation, InvalidPlace, InvalidTie, InvalidWeb, ParseError, TooMany, UnknownName)
from tests.samples import (
    APART, BOW, FOUR, GLUED, HOUSES, KITE, OBJECTS, ONE, PRISM, TWELVE, TWO, WHEEL, WRONG, Case, every_full, flat,
    slow_is_block, slow_lots, some_webs, webs_on)

PAIRS = tuple(itertools.combinations(TWELVE, 2))
FORTY = Web(TWELVE, PAIRS[:40])


class Making(Case):

    def test_constants(self):
        self.assertEqual((webs.MAX_PLACES, webs.MAX_TIES), (12, 40))

    def test_places_and_ties(self):
        self.assertEqual((KITE.places, KITE.ties[1]), (("a", "b", "c", "d"), ("a", "c")))
        self.assertEqual((len(FORTY), len(FORTY.ties)), (12, 40))
        self.assertEqual((ONE.places, ONE.ties), (("a",), ()))
        self.assertEqual(Web(("aaaaaaaa", "b"), (("aaaaaaaa", "b"),)).ties, (("aaaaaaaa", "b"),))

    def test_no_places(self):
        for places in [(), ("b", "a"), ("a", "a"), ("a", "B"), ("a", "abcdefghi"), TWELVE + ("m",), ("a", None),
                       ["a", "b"], "a", {"a": "b"}, *WRONG, *OBJECTS]:
            self.refuses(InvalidWeb, Web, places, ())

    def test_no_ties(self):
        for ties in [(("b", "a"),), (("a", "a"),), (("a", "c"),), (("c", "d"),), (("a", "b"), ("a", "b")),
                     [("a", "b")], (["a", "b"],), (("a",),), (("a", "b", "c"),), ("ab",), (("a", 1),), ((True, "b"),),
                     {("a", "b"): 1}, (("a", "b"), None), None, True, 3, "ab", (1,), (("a", ("b",)),), *OBJECTS]:
            self.refuses(InvalidWeb, Web, ("a", "b"), ties)
        self.refuses(InvalidWeb, Web, ("a", "b", "c"), (("a", "c"), ("a", "b")))
        self.refuses(InvalidWeb, Web, ("b", "c"), (("a", "b"), ("b", "c")))
        self.refuses(InvalidWeb, Web, TWELVE, PAIRS[:41])
        self.refuses(InvalidWeb, Web, None, None)

    def test_it_never_changes(self):
        for name in ("places", "ties", "lines", "lots", "hangs", "is_block"):
            self.assertIsInstance(Web.__dict__[name], property)
            with self.assertRaises(AttributeError):
                setattr(Web(("a",), ()), name, ())

    def test_methods_are_its_own(self):
        for name in ("from_lines", "of_ties", "neighbours", "common", "is_tied", "with_tie", "without_tie",
                     "with_place", "without_places", "drawn_together", "renamed"):
            self.assertIn(name, Web.__dict__)


class FromLines(Case):

    def test_any_order(self):
        web = Web.from_lines("tie c b", "place e", "place b", "tie a c", "place a")
        self.assertEqual((web.places, web.ties), (("a", "b", "c", "e"), (("a", "c"), ("b", "c"))))
        self.assertEqual(web.lines, ("place e", "tie a c", "tie b c"))
        self.assertEqual(Web.from_lines("place a"), ONE)

    def test_lines_lead_back(self):
        for web in [ONE, TWO, APART, BOW, FORTY, *some_webs(9, 6, 20, 1)]:
            self.assertEqual(Web.from_lines(*web.lines), web)
            self.assertEqual(Web.from_lines(*web.lines[::-1]), web)

    def test_lines_are_ascending(self):
        web = Web(("a", "b", "c", "d", "e"), (("b", "e"), ("c", "e")))
        self.assertEqual(web.lines, ("place a", "place d", "tie b e", "tie c e"))

    def test_no_line(self):
        for line in ["", "a", "place", "tie", "place ", "tie a", "place a b", "tie a b c", "tie a a", "place A",
                     "tie a B", " place a", "place a ", "place  a", "tie a  b", "place a\n", "tie a b\n", "Place a",
                     "ties a b", "tie a abcdefghi", "tie a,b", "tie\ta b", "place a1", "x" * 4000, *WRONG, *OBJECTS]:
            self.refuses(ParseError, Web.from_lines, line, number=0)
            self.refuses(ParseError, Web.from_lines, "tie a b", "place c", line, "", number=2)

    def test_told_again(self):
        self.refuses(ParseError, Web.from_lines, "tie a b", "tie b a", number=1)
        self.refuses(ParseError, Web.from_lines, "tie a b", "tie a c", "tie a b", None, number=2)
        self.refuses(ParseError, Web.from_lines, "place a", "tie a b", "place a", number=2)

    def test_no_web(self):
        self.refuses(InvalidWeb, Web.from_lines)
        self.refuses(InvalidWeb, Web.from_lines, *[f"place {name}" for name in TWELVE + ("m",)])
        lines = [f"tie {a} {b}" for a, b in PAIRS]
        self.assertEqual(Web.from_lines(*lines[:40]), FORTY)
        self.refuses(InvalidWeb, Web.from_lines, *lines[:41])
        self.refuses(ParseError, Web.from_lines, *lines, "no line", number=66)


class OfTies(Case):

    def test_any_order(self):
        self.assertEqual(Web.of_ties(("b", "c"), ("a", "z")), Web(("a", "b", "c", "z"), (("a", "z"), ("b", "c"))))
        self.assertEqual(Web.of_ties(*FORTY.ties[::-1]), FORTY)

    def test_no_ties(self):
        for value in [("b", "a"), ("a", "a"), ("a",), ("a", "b", "c"), ["a", "b"], "ab", ("a", "B"), ("a", 1), *WRONG,
                      *OBJECTS]:
            self.refuses(InvalidTie, Web.of_ties, value)
            self.refuses(InvalidTie, Web.of_ties, ("a", "b"), value)
        self.refuses(InvalidTie, Web.of_ties, ("a", "b"), ("b", "c"), ("a", "b"))

    def test_no_web(self):
        self.refuses(InvalidWeb, Web.of_ties)
        self.refuses(InvalidWeb, Web.of_ties, *PAIRS[:41])
        self.refuses(InvalidTie, Web.of_ties, *PAIRS[:41], PAIRS[0])
        self.refuses(InvalidWeb, Web.of_ties, *[("a", name) for name in TWELVE[1:] + ("m",)])


class Reading(Case):

    def test_examples(self):
        self.assertEqual(
            [str(WHEEL), WHEEL.places, WHEEL.neighbours("a"), PRISM.common("a", "b"), GLUED.is_block,
             (GLUED - ("a", "b")).lots],
            ["web of 5 places, 8 ties", ("a", "b", "c", "d", "h"), ("b", "d", "h"), ("c",), True,
             (("c", "d"), ("e", "f"))])
        self.assertEqual(
            [PRISM.drawn_together("a", "d").places, len(PRISM.drawn_together("a", "b").ties), (~WHEEL).lines,
             (WHEEL + GLUED).hangs],
            [("a", "b", "c", "e", "f"), 7, ("place h", "tie a c", "tie b d"), True])
        self.assertEqual(
            [("a", "c") in WHEEL, "h" in WHEEL, list(full_web(("p", "q", "r"))),
             ring_web(("b", "a", "c")) == full_web(("a", "b", "c")), Web.of_ties(("a", "b")).is_block],
            [False, True, [("p", "q"), ("p", "r"), ("q", "r")], True, False])

    def test_lots_and_blocks(self):
        for web in [*webs_on(4), *some_webs(5, 5, 40, 2), *some_webs(12, 9, 30, 3), *some_webs(12, 20, 30, 4)]:
            lots = slow_lots(web.places, web.ties)
            self.assertEqual(web.lots, lots)
            self.is_bool(web.hangs, len(lots) == 1)
            self.is_bool(web.is_block, slow_is_block(web))

    def test_edges(self):
        self.assertEqual([ONE.lots, ONE.hangs, ONE.is_block, ONE.lines], [(("a",),), True, False, ("place a",)])
        self.assertEqual([TWO.hangs, TWO.is_block, APART.hangs, APART.is_block], [True, False, False, False])
        self.assertEqual([KITE.is_block, BOW.is_block, HOUSES.is_block, ring_web(TWELVE).is_block],
                         [True, False, True, True])
        self.assertEqual(Web(TWELVE, ()).lots, tuple((name,) for name in TWELVE))

    def test_neighbours(self):
        self.assertEqual([WHEEL.neighbours("h"), ONE.neighbours("a"), FORTY.neighbours("a")],
                         [("a", "b", "c", "d"), (), TWELVE[1:]])
        for web in some_webs(8, 12, 10, 5):
            for place in web.places:
                near = {x for tie in web.ties if place in tie for x in tie} - {place}
                self.assertEqual(web.neighbours(place), tuple(sorted(near)))

    def test_common_and_tied(self):
        for web in [ONE, APART, *some_webs(7, 10, 10, 6)]:
            for a, b in itertools.product(web.places, repeat=2):
                both = set(web.neighbours(a)) & set(web.neighbours(b))
                self.assertEqual(web.common(a, b), tuple(sorted(both)))
                self.is_bool(web.is_tied(a, b), b in web.neighbours(a))

    def test_unknown_names(self):
        for wrong in ["x", "A", ("a", "b"), *WRONG, *OBJECTS]:
            self.refuses(UnknownName, KITE.neighbours, wrong, word=wrong)
            for call in (KITE.common, KITE.is_tied, KITE.with_tie, KITE.without_tie, KITE.drawn_together):
                self.refuses(UnknownName, call, wrong, "a", word=wrong)
                self.refuses(UnknownName, call, "a", wrong, word=wrong)
                self.refuses(UnknownName, call, wrong, "zz", word=wrong)

    def test_containing(self):
        for value in ("a", "d", ("a", "b"), ("c", "d")):
            self.is_bool(value in KITE, True)
        for value in ["e", ("b", "a"), ("a", "d"), ("a",), ["a", "b"], "ab", *WRONG, *OBJECTS, KITE]:
            self.is_bool(value in KITE, False)

    def test_length_and_iteration(self):
        self.assertEqual([len(ONE), len(FORTY), list(ONE), list(FORTY)], [1, 12, [], list(FORTY.ties)])

    def test_equality(self):
        same = Web(("a", "b", "c", "d"), KITE.ties)
        self.is_bool(same == KITE, True)
        self.is_bool(same != KITE, False)
        for value in [KITE.without_tie("a", "b"), KITE.with_place("e"), KITE.ties, KITE.places, KITE.lines, str(KITE),
                      (KITE.places, KITE.ties), *WRONG, *OBJECTS]:
            self.is_bool(KITE == value, False)
            self.is_bool(value == KITE, False)
            self.is_bool(KITE != value, True)
        self.is_bool(Web(("a", "b"), ()) == TWO, False)
        self.is_bool(Web(("a", "b"), ()) == Web(("a", "c"), ()), False)

    def test_text(self):
        self.assertEqual([str(ONE), str(FORTY)], ["web of 1 places, 0 ties", "web of 12 places, 40 ties"])


class Changing(Case):

    def test_ties(self):
        for a, b in (("a", "d"), ("d", "a")):
            more = KITE.with_tie(a, b)
            self.assertEqual(more, FOUR)
            self.assertEqual(more.without_tie(a, b), KITE)
        self.assertEqual(Web(("a", "b"), ()).with_tie("b", "a"), TWO)
        self.assertEqual(TWO.without_tie("a", "b").lines, ("place a", "place b"))
        self.assertEqual(KITE.lines[0], "tie a b")

    def test_ties_refused(self):
        self.refuses(InvalidTie, KITE.with_tie, "a", "a")
        self.refuses(InvalidTie, KITE.with_tie, "a", "b")
        self.refuses(InvalidTie, KITE.with_tie, "b", "a")
        self.refuses(InvalidTie, KITE.without_tie, "a", "d")
        self.refuses(InvalidTie, KITE.without_tie, "b", "b")
        self.refuses(TooMany, FORTY.with_tie, "k", "l", limit=40)
        self.refuses(InvalidTie, FORTY.with_tie, "k", "k")
        self.refuses(InvalidTie, FORTY.with_tie, "a", "b")
        self.refuses(UnknownName, FORTY.with_tie, "k", "m", word="m")
        self.assertEqual(FORTY.without_tie("a", "b").with_tie("k", "l").ties[-1], ("k", "l"))

    def test_places(self):
        self.assertEqual(TWO.with_place("aa").lines, ("place aa", "tie a b"))
        self.assertEqual(len(Web(TWELVE[:11], ()).with_place("zz")), 12)
        self.refuses(TooMany, FORTY.with_place, "m", limit=12)
        self.refuses(InvalidPlace, FORTY.with_place, "a")
        for wrong in ["a", "d", "A", "", "abcdefghi", *WRONG, *OBJECTS]:
            self.refuses(InvalidPlace, KITE.with_place, wrong)
            self.refuses(InvalidPlace, FORTY.with_place, wrong)

    def test_without_places(self):
        for call in (KITE.without_places, lambda places: KITE - places):
            self.assertEqual(call(()), KITE)
            self.assertEqual(call(("b",)).lines, ("tie a c", "tie c d"))
            self.assertEqual(call(("c", "b", "c")).lines, ("place a", "place d"))
            self.refuses(InvalidWeb, call, ("d", "c", "b", "a"))
            self.refuses(UnknownName, call, ("a", "b", "c", "d", "e"), word="e")
            self.refuses(UnknownName, call, ("a", ["b"], "x"), word=["b"])
            self.refuses(UnknownName, call, (("a", "b"),), word=("a", "b"))
            for wrong in ["a", ["a"], {"a": 1}, None, True, 3, *OBJECTS]:
                self.refuses(InvalidOperation, call, wrong)

    def test_without_places_by_hand(self):
        for web in some_webs(8, 14, 10, 7):
            for gone in itertools.combinations(web.places, 3):
                rest = web - gone
                self.assertEqual(rest.places, tuple(sorted(set(web.places) - set(gone))))
                self.assertEqual(rest.ties, tuple(tie for tie in web.ties if not set(tie) & set(gone)))

    def test_drawn_together(self):
        self.assertEqual(TWO.drawn_together("b", "a"), Web(("b",), ()))
        self.assertEqual(KITE.drawn_together("b", "c").lines, ("tie a b", "tie b d"))
        self.assertEqual(KITE.drawn_together("d", "b").lines, ("tie a c", "tie a d", "tie c d"))
        for web in some_webs(7, 11, 10, 8):
            for a, b in web.ties:
                for one, other in ((a, b), (b, a)):
                    drawn = web.drawn_together(one, other)
                    near = set(web.neighbours(one)) | set(web.neighbours(other))
                    self.assertEqual(drawn.places, tuple(x for x in web.places if x != other))
                    self.assertEqual(drawn.neighbours(one), tuple(sorted(near - {one, other})))
                    self.assertEqual(drawn - (one,), web - (one, other))
        self.refuses(InvalidTie, KITE.drawn_together, "a", "d")
        self.refuses(InvalidTie, KITE.drawn_together, "a", "a")

    def test_renamed(self):
        names = {"d": "a", "a": "zz", "b": "c", "c": "b"}
        self.assertEqual(KITE.renamed(names).lines, ("tie a b", "tie a c", "tie b c", "tie b zz", "tie c zz"))
        back = {names[name]: name for name in names}
        self.assertEqual(KITE.renamed(names).renamed(back), KITE)
        self.assertEqual(names, {"d": "a", "a": "zz", "b": "c", "c": "b"})
        for wrong in [{}, {"a": "b", "b": "c", "c": "d"}, {"a": "x", "b": "x", "c": "y", "d": "z"},
                      {"a": "w", "b": "x", "c": "y", "d": "Z"}, {"a": "w", "b": "x", "c": "y", "d": 3},
                      {"a": "w", "b": "x", "c": "y", "d": "z", "e": "v"}, {"a": "w", "b": "x", "c": "y", "e": "z"},
                      ("w", "x", "y", "z"), *WRONG, *OBJECTS]:
            self.refuses(InvalidOperation, KITE.renamed, wrong)

    def test_sum(self):
        self.assertEqual(TWO + Web(("c",), ()), Web(("a", "b", "c"), (("a", "b"),)))
        self.assertEqual((KITE + FOUR, FOUR + KITE), (FOUR, FOUR))
        self.refuses(InvalidWeb, lambda: FORTY + Web.of_ties(("k", "l")))
        self.refuses(InvalidWeb, lambda: FORTY + Web(("m",), ()))
        self.assertEqual(FORTY + FORTY, FORTY)
        for wrong in [KITE.ties, KITE.places, *WRONG, *OBJECTS]:
            if not isinstance(wrong, Web):
                self.refuses(TypeError, lambda: KITE + wrong)
                self.refuses(TypeError, lambda: wrong + KITE)

    def test_opposite(self):
        self.assertEqual([~ONE, ~FOUR, (~TWO).lines], [ONE, Web(FOUR.places, ()), ("place a", "place b")])
        for web in some_webs(7, 9, 10, 9):
            self.assertEqual(~~web, web)
            self.assertEqual(sorted(web.ties + (~web).ties), list(itertools.combinations(web.places, 2)))
        self.refuses(TooMany, lambda: ~Web(TWELVE, PAIRS[:25]), limit=40)
        self.assertEqual((~Web(TWELVE, PAIRS[:26])).ties, PAIRS[26:])

    def test_refused_calls_change_nothing(self):
        web = Web(KITE.places, KITE.ties)
        for call in (lambda: web.with_tie("a", "b"), lambda: web.with_place("a"), lambda: web - ("x",),
                     lambda: web.renamed({}), lambda: web + None):
            with self.assertRaises(Exception):
                call()
            self.assertEqual((web.places, web.ties, web.lots), (KITE.places, KITE.ties, KITE.lots))


class FullAndRing(Case):

    def test_full(self):
        self.assertEqual([full_web(("a",)), full_web(("a", "b")), full_web(FOUR.places)], [ONE, TWO, FOUR])
        self.assertEqual(len(every_full(9).ties), 36)
        for wrong in [(), ("b", "a"), ("a", "a"), TWELVE[:10], TWELVE, TWELVE + ("m",), ["a", "b"], "a", *WRONG,
                      *OBJECTS]:
            self.refuses(InvalidWeb, full_web, wrong)

    def test_ring(self):
        web = ring_web(("c", "a", "d", "b"))
        self.assertEqual(web.ties, (("a", "c"), ("a", "d"), ("b", "c"), ("b", "d")))
        self.assertEqual([len(ring_web(TWELVE[::-1])), len(ring_web(TWELVE).ties)], [12, 12])
        for wrong in [(), ("a", "b"), ("a", "b", "a"), ("a", "b", "c", "a"), TWELVE + ("m",), ["a", "b", "c"],
                      ("a", "b", "C"), "abc", ("a", "b", 3), flat, *WRONG, *OBJECTS]:
            self.refuses(InvalidWeb, ring_web, wrong)
