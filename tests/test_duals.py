"""[9.1] to [9.5], [0.16]: duals."""

import itertools
import random

from flatwebs.base.drawings import Drawing
from flatwebs.base.rings import each_ring, is_plain, ring_ties
from flatwebs.base.webs import Web, full_web, ring_web
from flatwebs.draw.bars import drawing_of
from flatwebs.errors import InvalidDrawing, InvalidOperation, InvalidRoute, InvalidTie, InvalidWeb, TooMany
from flatwebs.rims.duals import (
    MAX_RIMS, cut_of_ring, dual_naming, dual_of, dual_ties, is_dual_by, is_joining_tree, is_least_cut, is_ring_set,
    names_back, rim_names, ring_of_cut, ring_sides, within_ring)
from flatwebs.tree.partings import is_held
from tests.samples import (
    APART, BOW, CUBE, FLAT_TABLE, FOUR, GLUED, HOUSES, KITE, OBJECTS, OCTA, ONE, PRISM, THREE, TWELVE, TWO, WHEEL,
    WRONG, Case, bent, flat, not_drawings, not_webs, slow_lots, some_webs, subsets, woven_webs)

# A hub with eleven spokes: twelve places and twelve rims.
GREAT_WHEEL = ring_web(TWELVE[:11]) + Web.of_ties(*[(name, "l") for name in TWELVE[:11]])
WEBS = [FOUR, WHEEL, PRISM, OCTA, CUBE, GREAT_WHEEL, full_web(tuple("abcde")).without_tie("a", "b")]
WEBS += [web for web in some_webs(7, 12, 200, 31) + some_webs(8, 14, 300, 32) if is_held(web) and drawing_of(web)]
DRAWN = [drawing_of(web) for web in WEBS]
DRAWN += [drawing.mirror for drawing in DRAWN[:5]]
# Thirteen rims, and twenty: one more than there are names for, and as many as there can be.
TRIANGULATED = drawing_of(Web.of_ties(*[tuple(sorted(pair)) for k in range(7) for pair in (
    ("abcdefg"[k], "abcdefg"[k - 1]), ("abcdefg"[k], "h"), ("abcdefg"[k], "i"))]))
THIRTEEN = TRIANGULATED.without_tie("a", "b")
TWENTY = drawing_of(Web(TWELVE, tuple(sorted({tuple(sorted(pair)) for k in range(5) for pair in (
    ("a", "bcdef"[k]), ("bcdef"[k], "bcdef"[k - 1]), ("bcdef"[k], "ghijk"[k]), ("bcdef"[k], "ghijk"[k - 1]),
    ("ghijk"[k], "ghijk"[k - 1]), ("l", "ghijk"[k]))}))))
HANGING = [ONE, TWO, BOW, KITE, FOUR, WHEEL, THREE, ring_web(tuple("abcde")), PRISM, Web.of_ties(("a", "b"), ("b", "c"))]
NOT_HELD = [drawing_of(web) for web in (ONE, TWO, BOW, KITE, GLUED, THREE, ring_web(TWELVE))]
LEAN = (rim_names, dual_of, dual_ties, names_back)


def steps(rim):
    return list(zip(rim, rim[1:] + rim[:1]))


def name_along(drawing, a, b):
    """The name of the rim on which one goes from a to b."""
    return next("r" + TWELVE[k] for k, rim in enumerate(drawing.rims) if (a, b) in steps(rim))


def slow_is_ring_set(web, ties):
    return any(ring_ties(ring) == ties for ring in each_ring(web))


def slow_lots_without(web, ties):
    return len(slow_lots(web.places, [tie for tie in web.ties if tie not in ties]))


def slow_is_least_cut(web, ties):
    fewer = [tuple(tie for tie in ties if tie != gone) for gone in ties]
    return slow_lots_without(web, ties) > 1 and all(slow_lots_without(web, rest) == 1 for rest in fewer)


def slow_is_joining_tree(web, ties):
    fewer = [[tie for tie in ties if tie != gone] for gone in ties]
    return len(slow_lots(web.places, ties)) == 1 and all(len(slow_lots(web.places, rest)) > 1 for rest in fewer)


def slow_ring_sides(drawing, ring):
    """Rims on both sides, joined again and again over the ties that are not on the ring."""
    sides = [{rim for rim in drawing.rims if set(steps(rim)) & set(steps(row))} for row in (ring, ring[::-1])]
    free = [tie for tie in drawing.web.ties if tie not in ring_ties(ring)]
    for _ in drawing.rims:
        for a, b in free:
            pair = {drawing.rim_along(a, b), drawing.rim_along(b, a)}
            for side in sides:
                if pair & side:
                    side |= pair
    return tuple(tuple(sorted(side)) for side in sides)


class Examples(Case):

    def test_examples(self):
        self.assertEqual(
            [rim_names(flat)["rc"], dual_of(flat).lines, names_back(flat)],
            [("a", "d", "b"), ("ra: rb rc rd", "rb: ra rd rc", "rc: ra rb rd", "rd: ra rc rb"),
             {"ra": "c", "rb": "a", "rc": "b", "rd": "d"}])
        self.assertEqual(
            [dual_of(dual_of(flat)).renamed(names_back(flat)) == flat, dual_ties(flat)[("a", "b")],
             cut_of_ring(flat, ("a", "b", "c")), ring_of_cut(flat, (("ra", "rb"), ("ra", "rc"), ("ra", "rd")))],
            [True, ("ra", "rc"), (("ra", "rb"), ("ra", "rc"), ("ra", "rd")), ("a", "b", "c")])
        self.assertEqual(
            [ring_sides(flat, ("c", "b", "a"))[0], within_ring(flat, ("c", "b", "a")),
             is_least_cut(FOUR, (("a", "b"), ("a", "c"), ("a", "d"))),
             is_joining_tree(FOUR, (("a", "b"), ("b", "c"), ("c", "d")))],
            [(("a", "c", "d"), ("a", "d", "b"), ("b", "d", "c")), (("d",), ()), True, True])
        self.assertEqual(
            [is_dual_by(flat, dual_of(flat), {"ra": "ra", "rb": "rb", "rc": "rc", "rd": "rd"}),
             dual_naming(flat, flat) is None, is_ring_set(FOUR, (("a", "b"), ("a", "c"), ("b", "d"), ("c", "d")))],
            [True, False, True])
        self.assertEqual(MAX_RIMS, 12)


class Duals(Case):

    def test_samples(self):
        self.assertTrue(all(is_held(drawing.web) for drawing in DRAWN))
        self.assertGreater(len(DRAWN), 30)
        self.assertEqual([len(drawing) for drawing in (THIRTEEN, TWENTY, drawing_of(GREAT_WHEEL))], [13, 20, 12])

    def test_rim_names(self):
        for drawing in DRAWN:
            names = rim_names(drawing)
            self.assertEqual(list(names.items()), [("r" + TWELVE[k], rim) for k, rim in enumerate(drawing.rims)])
        self.assertEqual(list(rim_names(drawing_of(GREAT_WHEEL)))[-1], "rl")

    def test_dual(self):
        for drawing in DRAWN:
            dual = dual_of(drawing)
            names = rim_names(drawing)
            self.assertEqual(dual.web.places, tuple(names))
            for name, rim in names.items():
                row = tuple(name_along(drawing, q, p) for p, q in steps(rim))
                at = row.index(min(row))
                self.assertEqual(dual.round_at(name), row[at:] + row[:at])
                # [9.5]
                self.assertEqual(len(rim), len(dual.web.neighbours(name)))
            self.assertTrue(is_held(dual.web))
            self.assertEqual(len(dual.web.ties), len(drawing.web.ties))
            # The rims of the dual are the names of the rims round each place.
            back = {rim: name for name, rim in names.items()}
            rows = []
            for place in drawing.web.places:
                row = tuple(back[rim] for rim in drawing.rims_round(place))
                at = row.index(min(row))
                rows.append(row[at:] + row[:at])
            self.assertEqual(tuple(sorted(rows)), dual.rims)
            self.is_bool(drawing.is_triangulated, all(len(dual.web.neighbours(n)) == 3 for n in names))

    def test_dual_ties(self):
        for drawing in DRAWN:
            ties = dual_ties(drawing)
            self.assertEqual(list(ties), list(drawing.web.ties))
            self.assertEqual(sorted(ties.values()), list(dual_of(drawing).web.ties))
            for (a, b), pair in ties.items():
                self.assertEqual(pair, tuple(sorted((name_along(drawing, a, b), name_along(drawing, b, a)))))

    def test_dual_of_the_dual(self):
        for drawing in DRAWN:
            dual = dual_of(drawing)
            back = names_back(drawing)
            self.assertEqual(list(back), list(rim_names(dual)))
            self.assertEqual(sorted(back.values()), list(drawing.web.places))
            self.assertEqual(dual_of(dual).renamed(back), drawing)
            self.assertNotEqual(dual_of(dual).renamed(back), drawing.mirror)
            names = rim_names(drawing)
            for name, rim in rim_names(dual).items():
                row = tuple(names[one] for one in rim)
                found = drawing.rims_round(back[name])
                self.assertIn(row, [found[k:] + found[:k] for k in range(len(found))])
                self.assertEqual(len(rim), len(drawing.web.neighbours(back[name])))

    def test_mirrors(self):
        for drawing in DRAWN:
            self.assertIsNot(dual_naming(drawing.mirror, dual_of(drawing).mirror), None)

    def test_namings(self):
        chance = random.Random(3)
        for drawing in DRAWN:
            dual = dual_of(drawing)
            names = list(TWELVE[:len(dual.web)])
            chance.shuffle(names)
            right = dict(zip(dual.web.places, names))
            other = dual.renamed(right)
            self.is_bool(is_dual_by(drawing, other, right), True)
            self.is_bool(is_dual_by(drawing, other, dict(reversed(right.items()))), True)
            found = dual_naming(drawing, other)
            self.assertEqual(list(found), list(dual.web.places))
            self.assertEqual(dual.renamed(found), other)
            self.is_bool(is_dual_by(drawing, other, found), True)
            self.assertEqual(dual_naming(drawing, other), found)
            self.assertIs(dual_naming(drawing, drawing_of(ring_web(TWELVE))), None)
            self.is_bool(is_dual_by(drawing, drawing_of(ring_web(TWELVE)), right), False)

    def test_namings_by_force(self):
        others = [flat, flat.mirror, drawing_of(PRISM), drawing_of(WHEEL), drawing_of(WHEEL).mirror, *NOT_HELD[:5]]
        others += [dual_of(one) for one in DRAWN if len(one) <= 5]
        for drawing in [one for one in DRAWN if len(one) <= 5][:4]:
            dual = dual_of(drawing)
            for other in others:
                right = []
                for row in itertools.islice(itertools.permutations(other.web.places, len(dual.web)), 120):
                    naming = dict(zip(dual.web.places, row))
                    fits = dual.renamed(naming) == other
                    self.is_bool(is_dual_by(drawing, other, naming), fits)
                    right += [naming] if fits else []
                found = dual_naming(drawing, other)
                self.assertTrue(found in right if right else found is None)

    def test_duals_with_other_turns(self):
        # As many places, ties and rims of each length, but only one of a drawing and its mirror fits.
        lone = [drawing for drawing in DRAWN if dual_naming(drawing, dual_of(drawing).mirror) is None]
        self.assertGreater(len(lone), 3)
        self.assertIsNot(dual_naming(flat, flat.mirror), None)

    def test_near_namings(self):
        dual = dual_of(flat)
        right = {"ra": "ra", "rb": "rb", "rc": "rc", "rd": "rd"}
        for value in [*bent(right), *WRONG, *OBJECTS, {**right, "ra": "rb"}]:
            if value != right:
                self.is_bool(is_dual_by(flat, dual, value), False)


class Sets(Case):

    def test_all_sets(self):
        for web in HANGING:
            if len(web.ties) > 8:
                continue
            for ties in subsets(web.ties):
                self.is_bool(is_ring_set(web, ties), slow_is_ring_set(web, ties))
                self.is_bool(is_least_cut(web, ties), slow_is_least_cut(web, ties))
                self.is_bool(is_joining_tree(web, ties), slow_is_joining_tree(web, ties))

    def test_edges(self):
        self.assertEqual([call(ONE, ()) for call in (is_ring_set, is_least_cut, is_joining_tree)],
                         [False, False, True])
        tie = (("a", "b"),)
        self.assertEqual([call(TWO, tie) for call in (is_ring_set, is_least_cut, is_joining_tree)],
                         [False, True, True])
        both = ring_ties(("a", "b", "c")) + ring_ties(("c", "d", "e"))
        self.is_bool(is_ring_set(BOW, both), False)
        two = ring_web(tuple("abc")) + ring_web(tuple("def")) + Web.of_ties(("a", "d"))
        self.is_bool(is_ring_set(two, tuple(tie for tie in two if tie != ("a", "d"))), False)
        self.is_bool(is_least_cut(two, (("a", "b"), ("a", "d"))), False)
        # Three lots, none of which could be joined by one tie alone.
        self.is_bool(is_least_cut(ring_web(tuple("abc")), ring_ties(tuple("abc"))), False)

    def test_sets_and_duals(self):
        for drawing in DRAWN:
            ties = dual_ties(drawing)
            dual = dual_of(drawing).web
            for chosen in itertools.islice(subsets(drawing.web.ties), 0, 4000, 37):
                image = tuple(sorted(ties[tie] for tie in chosen))
                self.is_bool(is_ring_set(drawing.web, chosen), is_least_cut(dual, image))
                self.is_bool(is_least_cut(drawing.web, chosen), is_ring_set(dual, image))
                rest = tuple(sorted(ties[tie] for tie in drawing.web.ties if tie not in chosen))
                self.is_bool(is_joining_tree(drawing.web, chosen), is_joining_tree(dual, rest))

    def test_rings_and_cuts(self):
        for drawing in DRAWN:
            ties = dual_ties(drawing)
            dual = dual_of(drawing).web
            for ring in itertools.islice(each_ring(drawing.web), 0, 400, 7):
                cut = cut_of_ring(drawing, ring)
                self.assertEqual(cut, tuple(sorted(ties[tie] for tie in ring_ties(ring))))
                self.is_bool(is_least_cut(dual, cut), True)
                self.assertEqual(ring_of_cut(drawing, cut), ring)
                self.assertEqual(cut_of_ring(drawing, ring[2:] + ring[:2]), cut)
                self.assertEqual(cut_of_ring(drawing, ring[::-1]), cut)
                self.is_bool(is_ring_set(drawing.web, ring_ties(ring)), True)

    def test_all_cuts(self):
        for drawing in (flat, drawing_of(WHEEL), drawing_of(PRISM)):
            dual = dual_of(drawing).web
            found = []
            for ties in subsets(dual.ties):
                if slow_is_least_cut(dual, ties):
                    found.append(ring_of_cut(drawing, ties))
                else:
                    self.refuses(InvalidTie, ring_of_cut, drawing, ties)
            self.assertEqual(sorted(found), list(each_ring(drawing.web)))
            self.assertTrue(all(is_plain(ring) for ring in found))


class Sides(Case):

    def test_ring_sides(self):
        drawings = DRAWN[::4] + NOT_HELD[2:] + [drawing_of(web) for web in woven_webs(8, 6, 41)] + [TWENTY, THIRTEEN]
        for drawing in drawings:
            if drawing is None:
                continue
            for ring in itertools.islice(each_ring(drawing.web), 0, 300, 17):
                for row in (ring, ring[::-1], ring[1:] + ring[:1]):
                    sides = ring_sides(drawing, row)
                    self.assertEqual(sides, slow_ring_sides(drawing, row))
                    self.assertEqual(tuple(sorted(sides[0] + sides[1])), drawing.rims)
                    within = within_ring(drawing, row)
                    for side, inner in zip(sides, within):
                        self.assertEqual(inner, tuple(sorted({p for rim in side for p in rim} - set(row))))
                    self.assertFalse(set(within[0]) & set(within[1]))
                    self.assertEqual(sorted(within[0] + within[1] + row), list(drawing.web.places))

    def test_edges(self):
        bow = drawing_of(BOW)
        sides = ring_sides(bow, ("a", "b", "c"))
        self.assertEqual(sorted(map(len, sides)), [1, 2])
        self.assertEqual(sorted(within_ring(bow, ("a", "b", "c"))), [(), ("d", "e", "f")])
        round_web = drawing_of(ring_web(TWELVE))
        self.assertEqual(ring_sides(round_web, TWELVE), ((round_web.rims[0],), (round_web.rims[1],)))
        self.assertEqual(within_ring(round_web, TWELVE), ((), ()))


class Wrong(Case):

    def test_wrong_sets(self):
        for value in [(("b", "a"),), (("a", "b"), ("a", "b")), (("a", "c"), ("a", "b")), (("a", "z"),), [("a", "b")],
                      ("a", "b"), (("a", "b"), None), (("a", "b", "c"),), *WRONG, *OBJECTS]:
            for call in (is_ring_set, is_least_cut, is_joining_tree):
                for web in (FOUR, BOW, TWO):
                    self.is_bool(call(web, value), False)
            self.refuses(InvalidTie, ring_of_cut, flat, value)
        for value in not_webs():
            for call in (is_ring_set, is_least_cut, is_joining_tree):
                self.refuses(InvalidWeb, call, value, None)
        for web in (APART, Web(TWELVE, ()), KITE.with_place("z")):
            for call in (is_ring_set, is_least_cut, is_joining_tree):
                self.refuses(InvalidOperation, call, web, None)
        self.is_bool(is_least_cut(HOUSES, tuple(tie for tie in HOUSES if "a" in tie)), True)

    def test_wrong_drawings(self):
        for value in [*not_drawings(), FLAT_TABLE]:
            for call in LEAN:
                self.refuses(InvalidDrawing, call, value)
            for call in (cut_of_ring, ring_of_cut, ring_sides, within_ring, dual_naming):
                self.refuses(InvalidDrawing, call, value, None)
            self.refuses(InvalidDrawing, is_dual_by, value, None, None)
            self.refuses(InvalidDrawing, is_dual_by, flat, value, {"ra": 1})
            self.refuses(InvalidDrawing, dual_naming, flat, value)

    def test_webs_that_are_not_held_and_too_many(self):
        for drawing in NOT_HELD:
            for call in LEAN:
                self.refuses(InvalidOperation, call, drawing)
            for call in (cut_of_ring, ring_of_cut, dual_naming):
                self.refuses(InvalidOperation, call, drawing, None)
            self.refuses(InvalidOperation, is_dual_by, drawing, None, None)
        for drawing in (THIRTEEN, TRIANGULATED, TWENTY):
            self.assertTrue(is_held(drawing.web))
            for call in LEAN:
                self.refuses(TooMany, call, drawing, limit=12)
            for call in (cut_of_ring, ring_of_cut, dual_naming):
                self.refuses(TooMany, call, drawing, None, limit=12)
            self.refuses(TooMany, is_dual_by, drawing, None, None, limit=12)
        # A drawing that is not held has no dual, but can be asked about as another one.
        self.assertIs(dual_naming(flat, THIRTEEN), None)
        self.assertIs(dual_naming(flat, NOT_HELD[0]), None)

    def test_wrong_rings(self):
        for value in [("a", "b"), ("a", "b", "x"), ["a", "b", "c"], ("a", "c", "a"), *WRONG, *OBJECTS]:
            if value != ("a", "b", "c"):
                self.refuses(InvalidRoute, cut_of_ring, flat, value)
                self.refuses(InvalidRoute, ring_sides, flat, value)
                self.refuses(InvalidRoute, within_ring, flat, value)
        wheel = drawing_of(WHEEL)
        for call in (cut_of_ring, ring_sides, within_ring):
            self.refuses(InvalidRoute, call, wheel, ("a", "c", "h"))
        for drawing in (drawing_of(ONE), drawing_of(TWO)):
            self.refuses(InvalidRoute, ring_sides, drawing, ("a", "b", "c"))
        self.assertIs(type(dual_of(flat)), Drawing)
