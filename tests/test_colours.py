"""[15.1] to [15.4], [0.21]: colours."""

import itertools
import random

from flatwebs.base.drawings import Drawing
from flatwebs.base.webs import Web, full_web, ring_web
from flatwebs.draw.bars import drawing_of, has_drawing, is_bar
from flatwebs.draw.counted import each_drawing
from flatwebs.dye import colours as dye
from flatwebs.dye.colours import (
    choice_by_rim, choice_of, colours_by, dyes_of, four_colours, is_choice, is_dyes, is_four_colours, is_rim_colours,
    is_three_colours, odd_place, rim_colours, three_colours)
from flatwebs.errors import (
    InvalidColours, InvalidDrawing, InvalidNumber, InvalidOperation, InvalidRim, InvalidTie, InvalidWeb, Undrawn,
    UnknownName)
from tests.samples import (
    APART, BOW, CUBE, FOUR, GLUED, HOUSES, KITE, OBJECTS, OCTA, ONE, PETERSEN, PRISM, SIX, THREE, TWELVE, TWENTY, TWO,
    WHEEL, WRONG, Case, bent, blocks_on, flat, not_drawings, not_webs, some_webs, triangulated, webs_on, woven_webs)

FIVE = (1, 2, 3, 4, 5)
TRIANGLE = Drawing.from_rims(("a", "b", "c"), ("a", "c", "b"))
DRAWINGS = [*map(drawing_of, [ONE, TWO, KITE, WHEEL, PRISM, THREE, GLUED, OCTA, CUBE, BOW, ring_web(TWELVE),
                              Web.of_ties(("a", "b"), ("b", "c")), ring_web(tuple("abcde"))]),
            *[drawing for web in blocks_on(4) + blocks_on(5)[::8] for drawing in each_drawing(web)], flat, SIX, TWENTY,
            *[one for web in woven_webs(8, 10, 111) if has_drawing(web) for one in [drawing_of(web)]]]
# Double pyramids have even places, if their rings are even; and so have some more.
EVEN = [TRIANGLE, drawing_of(OCTA),
        drawing_of(Web.of_ties(*[tuple(sorted(pair)) for pair in zip("abcdef", "bcdefa")],
                               *[(name, top) for name in "abcdef" for top in "xy"]))]
TRIANGULATED = [*EVEN, flat, flat.mirror, SIX, TWENTY, *[triangulated(many, seed) for many in (5, 6, 7, 9, 12)
                                                         for seed in range(3)]]


def slow_is_rim_colours(drawing, value):
    """[15.1], as it is told."""
    if type(value) is not tuple or len(value) != len(drawing.rims) or not all(
            type(colour) is int and colour in (0, 1) for colour in value) or value[0] != 0:
        return False
    by_rim = dict(zip(drawing.rims, value))
    return all(by_rim[drawing.rim_along(a, b)] != by_rim[drawing.rim_along(b, a)] for a, b in drawing.web.ties)


def slow_is_coloured(web, value, many):
    return (type(value) is dict and set(value) == set(web.places)
            and all(type(number) is int and 0 <= number < many for number in value.values())
            and all(value[a] != value[b] for a, b in web.ties))


def slow_is_three(drawing, value):
    """[15.2], as it is told."""
    least = drawing.web.places[0]
    return (slow_is_coloured(drawing.web, value, 3) and value[least] == 0
            and value[drawing.web.neighbours(least)[0]] == 1)


def slow_is_dyes(drawing, value):
    """[15.3], as it is told."""
    if type(value) is not dict or set(value) != set(drawing.web.ties):
        return False
    return all(type(number) is int for number in value.values()) and all(
        {value[tuple(sorted(pair))] for pair in zip(rim, rim[1:] + rim[:1])} == {1, 2, 3} for rim in drawing.rims)


def slow_is_choice(web, lists, value):
    return (type(value) is dict and set(value) == set(web.places)
            and all(type(value[place]) is int and value[place] in lists[place] for place in web.places)
            and all(value[a] != value[b] for a, b in web.ties))


def all_coloured(web, many):
    for row in itertools.product(range(many), repeat=len(web)):
        value = dict(zip(web.places, row))
        if all(value[a] != value[b] for a, b in web.ties):
            yield value


def are_even(drawing):
    return all(len(drawing.web.neighbours(place)) % 2 == 0 for place in drawing.web.places)


def lists_by_chance(web, rim, a, b, chance, pool, more=0):
    """Lists as [15.4] asks for them, with `more` integers more at most."""
    lists = {}
    for place in web.places:
        many = min(pool, (3 if place in rim else 5) + chance.randint(0, more))
        lists[place] = tuple(sorted(chance.sample(range(-3, pool - 3), many)))
    one, other = chance.sample(range(-3, pool - 3), 2)
    return {**lists, a: (one,), b: (other,)}


class Examples(Case):

    def test_examples(self):
        octa = ~Web.of_ties(("a", "d"), ("b", "e"), ("c", "f"))
        self.assertEqual(
            [three_colours(drawing_of(octa)), sum(rim_colours(drawing_of(octa))), rim_colours(drawing_of(WHEEL)),
             odd_place(drawing_of(octa)), three_colours(drawing_of(FOUR))],
            [{"a": 0, "b": 1, "c": 2, "d": 0, "e": 1, "f": 2}, 4, None, None, None])
        one = drawing_of(FOUR)
        dyes = dyes_of(one, {"a": 0, "b": 1, "c": 2, "d": 3})
        self.assertEqual(
            [dyes, colours_by(one, dyes, "a", 2), is_dyes(one, dyes),
             is_four_colours(FOUR, {"a": 0, "b": 1, "c": 2, "d": 2})],
            [{("a", "b"): 1, ("a", "c"): 2, ("a", "d"): 3, ("b", "c"): 3, ("b", "d"): 2, ("c", "d"): 1},
             {"a": 2, "b": 3, "c": 0, "d": 1}, True, False])
        lists = {"a": (1,), "b": (2,), "c": FIVE, "d": FIVE}
        chosen = choice_by_rim(one, one.rim_along("a", "b"), "a", "b", lists)
        self.assertEqual(
            [is_choice(FOUR, lists, chosen), choice_of(KITE, {name: FIVE for name in "abcd"})["b"] in FIVE], [True, True])

    def test_constants(self):
        self.assertEqual([dye.FOUR, dye.LIST, dye.MAX_LIST], [4, 5, 20])


class Rims(Case):

    def test_rim_colours(self):
        for drawing in DRAWINGS + TRIANGULATED:
            found = rim_colours(drawing)
            self.is_bool(found is not None, are_even(drawing))
            self.is_bool(odd_place(drawing) is None, are_even(drawing))
            if found is None:
                self.assertEqual(len(drawing.web.neighbours(odd_place(drawing))) % 2, 1)
                self.is_bool(is_rim_colours(drawing, None), False)
                self.is_bool(is_rim_colours(drawing, (0,) * len(drawing.rims)), False)
            else:
                self.assertTrue(slow_is_rim_colours(drawing, found))
                for value in [found, *bent(found), tuple(1 - colour for colour in found), tuple(map(bool, found))]:
                    self.is_bool(is_rim_colours(drawing, value), slow_is_rim_colours(drawing, value))

    def test_all_rim_colours(self):
        for drawing in DRAWINGS:
            if len(drawing) < 6:
                for value in itertools.product((0, 1), repeat=len(drawing)):
                    self.is_bool(is_rim_colours(drawing, value), slow_is_rim_colours(drawing, value))

    def test_one_rim(self):
        self.assertEqual([rim_colours(drawing_of(ONE)), odd_place(drawing_of(ONE))], [(0,), None])
        self.is_bool(is_rim_colours(drawing_of(ONE), (0,)), True)
        for value in ((1,), (False,), (), (0, 0), [0]):
            self.is_bool(is_rim_colours(drawing_of(ONE), value), False)
        self.assertIsNone(rim_colours(drawing_of(TWO)))
        bow = Web.of_ties(*[("a", name) for name in "bcde"], ("b", "c"), ("d", "e"))
        self.assertTrue(slow_is_rim_colours(drawing_of(bow), rim_colours(drawing_of(bow))))

    def test_wrong_values(self):
        for value in not_drawings():
            for call in (rim_colours, odd_place, lambda one: is_rim_colours(one, None)):
                self.refuses(InvalidDrawing, call, value)
        for value in [*WRONG, *OBJECTS]:
            self.is_bool(is_rim_colours(EVEN[1], value), False)


class Three(Case):

    def test_three_colours(self):
        for drawing in TRIANGULATED:
            found = three_colours(drawing)
            self.is_bool(found is not None, are_even(drawing))
            if found is None:
                self.is_bool(is_three_colours(drawing, None), False)
                self.is_bool(is_three_colours(drawing, {place: 0 for place in drawing.web.places}), False)
            else:
                self.assertTrue(slow_is_three(drawing, found))
                self.assertEqual(list(found), list(drawing.web.places))
                self.is_bool(is_three_colours(drawing, dict(reversed(found.items()))), True)
                for value in [found, *bent(found), {place: 2 - found[place] for place in found}]:
                    self.is_bool(is_three_colours(drawing, value), slow_is_three(drawing, value))
                self.is_bool(is_four_colours(drawing.web, found), True)

    def test_all_three_colours(self):
        for drawing in [one for one in TRIANGULATED if len(one.web) < 8]:
            for value in all_coloured(drawing.web, 3):
                self.is_bool(is_three_colours(drawing, value), slow_is_three(drawing, value))
        self.assertGreater(len(EVEN), len([one for one in TRIANGULATED[len(EVEN):] if are_even(one)]))

    def test_wrong_values(self):
        for value in not_drawings():
            self.refuses(InvalidDrawing, three_colours, value)
            self.refuses(InvalidDrawing, is_three_colours, value, None)
        for web in (ONE, TWO, KITE, WHEEL, BOW):
            self.refuses(InvalidOperation, three_colours, drawing_of(web))
            self.refuses(InvalidOperation, is_three_colours, drawing_of(web), None)
        for value in [*WRONG, *OBJECTS, {"a": 0, "b": True, "c": 2}, {"a": False, "b": 1, "c": 2}, {"a": 0, "b": 2, "c": 1}]:
            self.is_bool(is_three_colours(TRIANGLE, value), False)
        self.is_bool(is_three_colours(TRIANGLE, {"c": 2, "a": 0, "b": 1}), True)


class Four(Case):

    def test_four_colours(self):
        great = [TWENTY.web, PETERSEN, CUBE, triangulated(10, 1).web, triangulated(12, 2).web, ring_web(TWELVE),
                 *some_webs(12, 25, 6, 112), *some_webs(10, 20, 6, 113)]
        for web in [*list(webs_on(4)), *list(webs_on(5))[::9], WHEEL, GLUED, HOUSES, OCTA, *great]:
            if web.hangs:
                found = four_colours(web)
                self.assertTrue(slow_is_coloured(web, found, 4) if found is not None else not has_drawing(web))
                self.assertEqual(four_colours(web), found)
                if found is not None:
                    self.assertEqual(list(found), list(web.places))
                    self.is_bool(is_four_colours(web, found), True)
                    self.is_bool(is_four_colours(web, dict(reversed(found.items()))), True)
                else:
                    self.assertEqual(list(all_coloured(web, 4)), [])
            else:
                self.refuses(InvalidOperation, four_colours, web)

    def test_webs_without_four_colours(self):
        # All ties between five places, and a wheel with five spokes whose hub is joined to a place outside, twice.
        five = full_web(tuple("abcde"))
        self.assertIsNone(four_colours(five))
        self.assertIsNone(four_colours(full_web(TWELVE[:9])))
        self.assertIsNone(four_colours(five + Web.of_ties(*zip("efghijk", "fghijkl"))))
        wheels = ring_web(tuple("abcde")) + Web.of_ties(*[(name, top) for name in "abcde" for top in "xy"], ("x", "y"))
        self.assertIsNone(four_colours(wheels))
        self.assertTrue(slow_is_coloured(HOUSES, four_colours(HOUSES), 4))
        self.assertTrue(slow_is_coloured(wheels.without_tie("x", "y"), four_colours(wheels.without_tie("x", "y")), 4))

    def test_near_colours(self):
        for web, value in ((ONE, {"a": 3}), (FOUR, {"a": 3, "b": 1, "c": 0, "d": 2}), (APART, {
                "a": 0, "b": 3, "c": 0, "d": 1}), (THREE, {name: int(name in "ab") for name in THREE.places})):
            self.is_bool(is_four_colours(web, value), True)
            for other in bent(value):
                self.is_bool(is_four_colours(web, other), slow_is_coloured(web, other, 4))
        for value in [*WRONG, *OBJECTS, {"a": 4}, {"a": -1}, {"a": True}, {"a": None}, {"a": "0"}, {"b": 0}]:
            self.is_bool(is_four_colours(ONE, value), value == {"a": 1} and value["a"] is not True)
        for value in not_webs():
            self.refuses(InvalidWeb, four_colours, value)
            self.refuses(InvalidWeb, is_four_colours, value, None)


class Dyes(Case):

    def test_dyes_and_colours(self):
        for drawing in TRIANGULATED:
            web = drawing.web
            colours = four_colours(web)
            for row in itertools.permutations(range(4)):
                other = {place: row[colours[place]] for place in reversed(web.places)}
                dyes = dyes_of(drawing, other)
                self.assertEqual(list(dyes), list(web.ties))
                self.assertEqual(dyes, {(a, b): other[a] ^ other[b] for a, b in web.ties})
                self.assertTrue(slow_is_dyes(drawing, dyes))
                self.is_bool(is_dyes(drawing, dyes), True)
                turned = dict(reversed(dyes.items()))
                self.is_bool(is_dyes(drawing, turned), True)
                place = web.places[row[0]] if row[0] < len(web) else web.places[0]
                back = colours_by(drawing, turned, place, other[place])
                self.assertEqual(back, other)
                self.assertEqual(list(back), list(web.places))
                for number in range(4):
                    again = colours_by(drawing, dyes, place, number)
                    self.assertEqual(again[place], number)
                    self.assertTrue(slow_is_coloured(web, again, 4))
                    self.assertEqual(dyes_of(drawing, again), dyes)

    def test_all_dyes(self):
        for drawing in (TRIANGLE, flat, flat.mirror, triangulated(5, 0)):
            ties = drawing.web.ties
            by_dyes = {}
            for colours in all_coloured(drawing.web, 4):
                by_dyes.setdefault(tuple(dyes_of(drawing, colours).values()), []).append(colours)
            for row in itertools.product((1, 2, 3), repeat=len(ties)):
                right = slow_is_dyes(drawing, dict(zip(ties, row)))
                self.is_bool(is_dyes(drawing, dict(zip(ties, row))), right)
                self.assertEqual(len(by_dyes.get(row, [])), 4 if right else 0)
                if right:
                    for colours in by_dyes[row]:
                        for place in colours:
                            self.assertEqual(colours_by(drawing, dict(zip(ties, row)), place, colours[place]), colours)

    def test_near_dyes(self):
        for drawing in (TRIANGLE, flat, EVEN[1]):
            for value in bent(dyes_of(drawing, four_colours(drawing.web))):
                right = slow_is_dyes(drawing, value)
                self.is_bool(is_dyes(drawing, value), right)
                if not right:
                    self.refuses(InvalidColours, colours_by, drawing, value, None, None)

    def test_wrong_values(self):
        dyes = {("a", "b"): 1, ("a", "c"): 2, ("b", "c"): 3}
        self.is_bool(is_dyes(TRIANGLE, dyes), True)
        for value in not_drawings():
            for call in (lambda one: is_dyes(one, None), lambda one: dyes_of(one, None),
                         lambda one: colours_by(one, None, None, None)):
                self.refuses(InvalidDrawing, call, value)
        for web in (ONE, TWO, KITE, WHEEL):
            for call in (lambda one: is_dyes(one, None), lambda one: dyes_of(one, None),
                         lambda one: colours_by(one, None, None, None)):
                self.refuses(InvalidOperation, call, drawing_of(web))
        for value in [*WRONG, *OBJECTS, {**dyes, ("a", "b"): True}, {**dyes, ("a", "b"): 0}, {**dyes, ("a", "b"): 3},
                      {"a": 0, "b": 1, "c": 1}, {"a": 0, "b": True, "c": 2}, {"a": 0, "b": 1, "c": 4}]:
            self.is_bool(is_dyes(TRIANGLE, value), False)
            self.refuses(InvalidColours, dyes_of, TRIANGLE, value)
            self.refuses(InvalidColours, colours_by, TRIANGLE, value, None, None)
        for value in ["x", "ab", *WRONG, *OBJECTS]:
            self.refuses(UnknownName, colours_by, TRIANGLE, dyes, value, None, word=value)
        for value in [4, -1, 5, 10 ** 60, *[one for one in WRONG if one is None or type(one) is not int], *OBJECTS]:
            self.refuses(InvalidNumber, colours_by, TRIANGLE, dyes, "a", value, value=value)
        self.refuses(InvalidNumber, colours_by, TRIANGLE, dyes, "a", True, value=True)


class Choices(Case):

    def test_choice_by_rim(self):
        chance = random.Random(114)
        for drawing in [one for one in DRAWINGS + TRIANGULATED if one.web.is_block]:
            for rim in drawing.rims:
                k = chance.randrange(len(rim))
                a, b = chance.sample((rim[k - 1], rim[k]), 2)
                for pool in (5, 6, 9, 30):
                    lists = lists_by_chance(drawing.web, rim, a, b, chance, pool, chance.choice((0, 0, 15)))
                    chosen = choice_by_rim(drawing, rim, a, b, dict(reversed(lists.items())))
                    self.assertTrue(slow_is_choice(drawing.web, lists, chosen))
                    self.assertEqual(list(chosen), list(drawing.web.places))
                    self.is_bool(is_choice(drawing.web, lists, chosen), True)
                    self.assertEqual(choice_by_rim(drawing, rim, b, a, lists), chosen)

    def test_hard_choices(self):
        # All places of one list, all of the same integers, and lists of twenty.
        for drawing in [one for one in TRIANGULATED if len(one.web) > 8]:
            for rim in drawing.rims[::4]:
                a, b, c = rim
                lists = {place: FIVE for place in drawing.web.places}
                for x, y in itertools.permutations((1, 2, 3), 2):
                    told = {**lists, a: (x,), b: (y,), c: (1, 2, 3)}
                    self.assertTrue(slow_is_choice(drawing.web, told, choice_by_rim(drawing, rim, a, b, told)))
                long = {place: tuple(range(k, k + 20)) for k, place in enumerate(drawing.web.places)}
                long = {**long, a: (5,), b: (10 ** 60 - 1,)}
                self.assertTrue(slow_is_choice(drawing.web, long, choice_by_rim(drawing, rim, b, a, long)))

    def test_choice_of(self):
        chance = random.Random(115)
        webs = [ONE, TWO, BOW, *[drawing.web for drawing in DRAWINGS + TRIANGULATED]]
        for web in webs:
            for pool in (5, 6, 8, 25):
                lists = {place: tuple(sorted(chance.sample(range(-9, pool - 9), min(pool, chance.choice((5, 5, 7, 20))))))
                         for place in web.places}
                chosen = choice_of(web, dict(reversed(lists.items())))
                self.assertTrue(slow_is_choice(web, lists, chosen))
                self.assertEqual(list(chosen), list(web.places))
                self.is_bool(is_choice(web, lists, chosen), True)

    def test_near_choices(self):
        lists = {"a": (1,), "b": (0, 2), "c": (-5, 1, 3), "d": FIVE}
        self.is_bool(is_choice(KITE, lists, {"d": 4, "c": -5, "b": 0, "a": 1}), True)
        for value in bent({"a": 1, "b": 0, "c": 3, "d": 1}):
            self.is_bool(is_choice(KITE, lists, value), slow_is_choice(KITE, lists, value))
        for row in itertools.product((1, True, 0, False, 3, -5), repeat=4):
            value = dict(zip("abcd", row))
            self.is_bool(is_choice(KITE, lists, value), slow_is_choice(KITE, lists, value))
        for value in [*WRONG, *OBJECTS]:
            self.is_bool(is_choice(KITE, lists, value), False)
        # Lists of which none can be chosen, and a web that falls apart.
        self.is_bool(is_choice(TWO, {"a": (1,), "b": (1,)}, {"a": 1, "b": 1}), False)
        self.is_bool(is_choice(APART, {name: (ord(name),) for name in "abcd"}, {name: ord(name) for name in "abcd"}), True)

    def wrong_lists(self, web):
        right = {place: FIVE for place in web.places}
        first = web.places[0]
        return [*WRONG, *OBJECTS, *[{**right, first: row} for row in (
            (), (1, 1), (2, 1), [1, 2, 3, 4, 5], tuple(range(21)), (True, 2, 3, 4, 5), (1, 2, 3, 4, None), 5, None,
            (1, 2, 3, 4, 10 ** 60), (1, 2, 3, 4, "5"), ((1,), (2,)), {1: 2})],
                {place: FIVE for place in web.places[1:]}, {**right, "zz": FIVE}, {**right, None: FIVE}]

    def test_wrong_lists(self):
        for value in self.wrong_lists(KITE):
            self.refuses(InvalidColours, is_choice, KITE, value, None)
            self.refuses(InvalidColours, choice_of, KITE, value)
            kite = drawing_of(KITE)
            self.refuses(InvalidColours, choice_by_rim, kite, kite.rims[0], "a", "a", value)
        for web in (APART, HOUSES):
            self.refuses(InvalidColours, choice_of, web, None)
        for value in not_webs():
            self.refuses(InvalidWeb, is_choice, value, None, None)
            self.refuses(InvalidWeb, choice_of, value, None)
        # Lists of one and of twenty integers are lists.
        self.is_bool(is_choice(TWO, {"a": (1,), "b": tuple(range(20))}, {"a": 1, "b": 19}), True)

    def test_errors_of_choice_of(self):
        short = {place: (1, 2, 3, 4) for place in HOUSES.places}
        for lists in (short, {place: FIVE for place in HOUSES.places}):
            with self.assertRaises(Undrawn) as caught:
                choice_of(HOUSES, lists)
            self.is_bool(is_bar(HOUSES, caught.exception.bar), True)
        self.refuses(InvalidOperation, choice_of, APART, {place: FIVE for place in "abcd"})
        apart = full_web(tuple("abcde")) + Web(("f",), ())
        self.refuses(InvalidOperation, choice_of, apart, {place: FIVE for place in "abcdef"})
        self.refuses(InvalidOperation, choice_of, KITE, {"a": FIVE, "b": FIVE, "c": FIVE, "d": (1, 2, 3, 4)})
        self.refuses(InvalidOperation, choice_of, ONE, {"a": (1, 2, 3, 4)})
        self.assertEqual(list(choice_of(ONE, {"a": FIVE})), ["a"])

    def test_errors_of_choice_by_rim(self):
        rim = flat.rim_along("a", "b")
        lists = {"a": (1,), "b": (2,), "c": FIVE, "d": FIVE}
        for value in not_drawings():
            self.refuses(InvalidDrawing, choice_by_rim, value, None, None, None, None)
        for web in (ONE, TWO, BOW):
            self.refuses(InvalidOperation, choice_by_rim, drawing_of(web), None, None, None, None)
        for value in [rim[1:] + rim[:1], rim[::-1], list(rim), *WRONG, *OBJECTS]:
            self.refuses(InvalidRim, choice_by_rim, flat, value, None, None, None)
        for value in ["x", "ab", *WRONG, *OBJECTS]:
            self.refuses(UnknownName, choice_by_rim, flat, rim, value, "zz", None, word=value)
            self.refuses(UnknownName, choice_by_rim, flat, rim, "a", value, None, word=value)
        self.refuses(InvalidColours, choice_by_rim, flat, rim, "a", "a", None)
        other = [place for place in "abcd" if place not in rim][0]
        for a, b in (("a", "a"), ("a", other), (other, "b"), (other, other)):
            self.refuses(InvalidTie, choice_by_rim, flat, rim, a, b, lists)
        # Two places of a rim that are tied, but stand not next to one another on it.
        kite = drawing_of(KITE)
        square = [one for one in kite.rims if len(one) == 4][0]
        self.refuses(InvalidTie, choice_by_rim, kite, square, "b", "c", {**lists, "b": (1,), "c": (2,)})
        self.refuses(InvalidTie, choice_by_rim, kite, square, "a", "d", lists)

    def test_lists_just_too_short(self):
        for rim in flat.rims:
            for k in range(3):
                a, b, c = rim[k], rim[k - 1], rim[k - 2]
                d = [place for place in "abcd" if place not in rim][0]
                lists = {a: (7,), b: (-1,), c: (-1, 6, 7), d: (-1, 5, 6, 7, 8)}
                self.assertTrue(slow_is_choice(FOUR, lists, choice_by_rim(flat, rim, a, b, lists)))
                for place, row in ((a, (-1,)), (b, (7,)), (a, (7, 8)), (b, (-1, 0)), (c, (6, 7)), (c, (6,)),
                                   (d, (5, 6, 7, 8)), (d, (5,)), (a, (1, 2, 3, 4, 5))):
                    self.refuses(InvalidOperation, choice_by_rim, flat, rim, a, b, {**lists, place: row})
                    self.refuses(InvalidOperation, choice_by_rim, flat, rim, b, a, {**lists, place: row})
