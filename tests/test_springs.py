"""[14.1] to [14.5], [0.20] and what [0.23] says of them: springs at rest."""

import itertools
import random
from fractions import Fraction

from flatwebs.base.drawings import Drawing
from flatwebs.base.webs import Web, full_web, ring_web
from flatwebs.draw.bars import drawing_of
from flatwebs.draw.counted import each_drawing
from flatwebs.errors import InvalidCorners, InvalidDrawing, InvalidOperation, InvalidPicture, InvalidRim, InvalidWeb
from flatwebs.grid.corners import corners, drawing_by_grid, is_grid
from flatwebs.grid.springs import (
    MAX_CORNER, MAX_STRENGTH, bend_of, double_area, drawing_shown, energy, is_corners, is_flat, is_picture, is_point,
    is_rest, is_strengths, moved, rest_of, rim_corners, springs)
from flatwebs.grid.trees import three_trees
from tests.samples import (
    APART, BOW, CUBE, FOUR, GLUED, KITE, OBJECTS, OCTA, ONE, PRISM, SIX, THREE, TWELVE, TWENTY, TWO, WHEEL, WRONG,
    Case, bent, flat, held_webs, not_drawings, not_webs, some_webs, triangulated)
from tests.test_corners import slow_is_clear, slow_shown

LINE = Web.of_ties(("a", "b"), ("b", "c"))
STAR = Web.of_ties(*[("a", name) for name in TWELVE[1:]])
WEBS = [ONE, TWO, LINE, KITE, FOUR, BOW, WHEEL, PRISM, THREE, GLUED, OCTA, CUBE, STAR, ring_web(TWELVE), TWENTY.web,
        *[web for web in some_webs(9, 14, 20, 101) if web.hangs]]
HELD = [flat, flat.mirror, TWENTY, *map(drawing_of, held_webs()), triangulated(9, 4), triangulated(12, 5)]


def whole(number):
    return (number, 1)


def told(number):
    """A fraction of Python's library as a pair."""
    return (number.numerator, number.denominator)


def read(picture):
    """A picture with fractions of Python's library."""
    return {key: (Fraction(*x), Fraction(*y)) for key, (x, y) in picture.items()}


def pictured(points):
    return {key: (told(Fraction(x)), told(Fraction(y))) for key, (x, y) in points.items()}


def slow_rest(web, fixed, strengths):
    """The points that rest, by taking away one place after the other."""
    pulls = strengths or {tie: 1 for tie in web.ties}
    free = [place for place in web.places if place not in fixed]
    rows = []
    for place in free:
        row = {one: Fraction(0) for one in [*free, 0, 1]}
        for one in web.neighbours(place):
            pull = pulls[tuple(sorted((place, one)))]
            row[place] += pull
            if one in fixed:
                row[0] += pull * fixed[one][0]
                row[1] += pull * fixed[one][1]
            else:
                row[one] -= pull
        rows.append(row)
    for k, place in enumerate(free):
        turn = {key: rows[k][key] / rows[k][place] for key in rows[k]}
        rows = [turn if m == k else {key: row[key] - row[place] * turn[key] for key in row} for m, row in enumerate(rows)]
    found = {place: (rows[k][0], rows[k][1]) for k, place in enumerate(free)}
    return {place: fixed.get(place) or found[place] for place in web.places}


def slow_energy(web, picture, strengths=None):
    spots = read(picture)
    pulls = strengths or {tie: 1 for tie in web.ties}
    return told(sum((pulls[a, b] * ((spots[a][0] - spots[b][0]) ** 2 + (spots[a][1] - spots[b][1]) ** 2)
                     for a, b in web.ties), Fraction(0)))


def slow_is_fraction(value):
    return (type(value) is tuple and len(value) == 2 and all(type(number) is int for number in value)
            and value[1] > 0 and told(Fraction(*value)) == value)


def slow_is_point(value):
    return type(value) is tuple and len(value) == 2 and all(map(slow_is_fraction, value))


def slow_is_picture(web, value):
    return type(value) is dict and set(value) == set(web.places) and all(map(slow_is_point, value.values()))


def slow_is_corners(web, value):
    return (type(value) is dict and 1 <= len(value) and set(value) <= set(web.places)
            and all(type(spot) is tuple and len(spot) == 2
                    and all(type(number) is int and abs(number) <= 1000 for number in spot) for spot in value.values()))


def slow_is_strengths(web, value):
    return (type(value) is dict and set(value) == set(web.ties)
            and all(type(number) is int and 1 <= number <= 100 for number in value.values()))


def slow_bend(picture, ring):
    spots = read(picture)
    turns = set()
    for one, other, third in itertools.combinations([spots[place] for place in ring], 3):
        turn = (other[0] - one[0]) * (third[1] - one[1]) - (other[1] - one[1]) * (third[0] - one[0])
        turns.add((turn > 0) - (turn < 0))
    return turns.pop() if len(turns) == 1 else 0


def slow_area(picture, ring):
    spots = [read(picture)[place] for place in ring]
    return told(sum((x * w - y * v for (x, y), (v, w) in zip(spots, spots[1:] + spots[:1])), Fraction(0)))


def by_chance(web, chance, reach=5, parts=(1, 2, 3)):
    """A picture by chance."""
    return pictured({place: (Fraction(chance.randint(-reach, reach), chance.choice(parts)),
                             Fraction(chance.randint(-reach, reach), chance.choice(parts))) for place in web.places})


def some_corners(web, chance):
    places = chance.sample(web.places, chance.randint(1, len(web)))
    return {place: (chance.randint(-9, 9), chance.randint(-1000, 1000)) for place in places}


def some_strengths(web, chance):
    return {tie: chance.randint(1, 100) for tie in web.ties}


class Examples(Case):

    def test_examples(self):
        picture = springs(flat, ("a", "b", "c"))
        self.assertEqual(
            [picture["c"], picture["d"], energy(FOUR, picture), bend_of(picture, ("a", "b", "c")),
             bend_of(picture, ("a", "c", "d")), double_area(picture, ("a", "b", "c"))],
            [((2, 1), (4, 1)), ((1, 1), (5, 3)), (128, 3), 1, -1, (2, 1)])
        strong = {("a", "b"): 1, ("a", "c"): 1, ("a", "d"): 2, ("b", "c"): 1, ("b", "d"): 1, ("c", "d"): 1}
        self.assertEqual(
            [springs(flat, ("a", "b", "c"), strengths=strong)["d"], is_flat(FOUR, picture),
             drawing_shown(FOUR, picture) == flat],
            [((3, 4), (5, 4)), True, True])
        kite = rest_of(KITE, {"a": (0, 0), "b": (1, 1), "c": (2, 4)})
        self.assertEqual(
            [kite["d"], is_flat(KITE, kite), is_rest(KITE, {"a": (0, 0)}, kite), rest_of(KITE, {"a": (7, -7)})["d"]],
            [((3, 2), (5, 2)), False, False, ((7, 1), (-7, 1))])


class Kinds(Case):

    def test_points_and_pictures(self):
        self.assertEqual([MAX_STRENGTH, MAX_CORNER], [100, 1000])
        numbers = [(0, 1), (1, 2), (-7, 3), (10 ** 80 + 1, 10 ** 80), (2, 4), (0, 2), (1, 0), (1, -1), (True, 1),
                   (1, True), 1, (1,), None, [1, 2], (1, 2, 3), ("1", 1)]
        for x, y in itertools.product(numbers, repeat=2):
            self.is_bool(is_point((x, y)), slow_is_point((x, y)))
        for value in [*WRONG, *OBJECTS, ((0, 1),), ((0, 1), (0, 1), (0, 1)), [(0, 1), (0, 1)]]:
            self.is_bool(is_point(value), False)
            self.is_bool(is_picture(TWO, value), False)
            self.is_bool(is_picture(ONE, {"a": value}), False)
        for web in (ONE, TWO, KITE):
            picture = by_chance(web, random.Random(102))
            self.is_bool(is_picture(web, picture), True)
            self.is_bool(is_picture(web, dict(reversed(picture.items()))), True)
            for value in bent(picture):
                self.is_bool(is_picture(web, value), slow_is_picture(web, value))

    def test_strengths(self):
        for web in (ONE, TWO, KITE):
            strengths = {tie: 100 - k for k, tie in enumerate(web.ties)}
            self.is_bool(is_strengths(web, strengths), True)
            self.is_bool(is_strengths(web, dict(reversed(strengths.items()))), True)
            for value in bent(strengths):
                self.is_bool(is_strengths(web, value), slow_is_strengths(web, value))
        for number in (0, 1, 2, 99, 100, 101, -1, True, False, None, "1", (1, 1), 10 ** 60):
            self.is_bool(is_strengths(TWO, {("a", "b"): number}), type(number) is int and 1 <= number <= 100)
        for value in [*WRONG, *OBJECTS, {("b", "a"): 1}, {"ab": 1}, {("a", "b"): 1, ("a", "c"): 1}]:
            self.is_bool(is_strengths(TWO, value), False)
        self.is_bool(is_strengths(ONE, {}), True)

    def test_corners(self):
        for web in (ONE, TWO, KITE):
            for many in range(len(web) + 1):
                value = {place: (7, -7) for place in web.places[:many]}
                self.is_bool(is_corners(web, value), many > 0)
                for other in bent(value):
                    self.is_bool(is_corners(web, other), slow_is_corners(web, other))
        for number in (0, 1000, 1001, -1000, -1001, True, None, "0", (0, 1), 10 ** 60):
            for spot in ((number, 0), (0, number), (number,), (0, 0, number), [number, 0]):
                self.is_bool(is_corners(ONE, {"a": spot}), slow_is_corners(ONE, {"a": spot}))
        for value in [*WRONG, *OBJECTS, {"b": (0, 0)}, {"a": (0, 0), "b": (0, 0)}, {None: (0, 0)}]:
            self.is_bool(is_corners(ONE, value), False)

    def test_wrong_webs(self):
        for value in not_webs():
            for call in (is_picture, is_strengths, is_corners, rest_of, is_flat, energy, drawing_shown):
                self.refuses(InvalidWeb, call, value, None)
            self.refuses(InvalidWeb, is_rest, value, None, None)
            self.refuses(InvalidWeb, moved, value, None, None)
            self.refuses(InvalidWeb, lambda web: rest_of(web, None, strengths=3), value)
            self.refuses(InvalidWeb, lambda web: energy(web, None, strengths=3), value)


class Rest(Case):

    def test_rest(self):
        chance = random.Random(103)
        for web in WEBS:
            for strengths in (None, None, some_strengths(web, chance), some_strengths(web, chance)):
                fixed = some_corners(web, chance)
                picture = rest_of(web, fixed, strengths=strengths)
                self.assertEqual(picture, pictured(slow_rest(web, fixed, strengths)))
                self.assertEqual(list(picture), list(web.places))
                self.is_bool(is_picture(web, picture), True)
                self.is_bool(is_rest(web, fixed, picture, strengths=strengths), True)
                self.is_bool(is_rest(web, fixed, dict(reversed(picture.items())), strengths=strengths), True)
                self.assertTrue(all(picture[place] == (whole(x), whole(y)) for place, (x, y) in fixed.items()))
                pulls = strengths or {tie: 1 for tie in web.ties}
                spots = read(picture)
                for place in web.places:
                    if place not in fixed:
                        near = [(pulls[tuple(sorted((place, one)))], spots[one]) for one in web.neighbours(place)]
                        for k in (0, 1):
                            self.assertEqual(spots[place][k] * sum(pull for pull, _ in near),
                                             sum(pull * spot[k] for pull, spot in near))

    def test_strengths_of_one_and_none(self):
        for web in WEBS:
            fixed = {web.places[0]: (0, 3), web.places[-1]: (1000, -1000)}
            ones = {tie: 1 for tie in web.ties}
            self.assertEqual(rest_of(web, fixed), rest_of(web, fixed, strengths=ones))
            self.assertEqual(rest_of(web, fixed), rest_of(web, fixed, strengths=None))
            hundred = {tie: 100 for tie in web.ties}
            self.assertEqual(rest_of(web, fixed), rest_of(web, fixed, strengths=hundred))
            picture = rest_of(web, fixed)
            self.assertEqual(energy(web, picture), energy(web, picture, strengths=ones))

    def test_edges(self):
        self.assertEqual(rest_of(ONE, {"a": (1000, -1000)}), {"a": (whole(1000), whole(-1000))})
        self.assertEqual(rest_of(TWO, {"b": (3, 4)}), {"a": (whole(3), whole(4)), "b": (whole(3), whole(4))})
        # All places have corners; a place that hangs on one tie stands where its neighbour stands.
        fixed = {place: (k, -k) for k, place in enumerate(KITE.places)}
        self.assertEqual(rest_of(KITE, fixed), {place: (whole(k), whole(-k)) for k, place in enumerate(KITE.places)})
        tail = KITE + Web.of_ties(("d", "x"))
        picture = rest_of(tail, {"a": (0, 0), "b": (5, 0)})
        self.assertEqual(picture["x"], picture["d"])
        self.assertEqual(rest_of(LINE, {"a": (0, 0), "c": (1, 1)}, strengths={("a", "b"): 1, ("b", "c"): 100})["b"],
                         ((100, 101), (100, 101)))
        # Eleven free places on a ring, with unlike strengths.
        ring = ring_web(TWELVE)
        strengths = {tie: 89 + k for k, tie in enumerate(ring.ties)}
        fixed = {"a": (1, 1000), "b": (-999, 7)}
        self.assertEqual(rest_of(ring, fixed, strengths=strengths), pictured(slow_rest(ring, fixed, strengths)))
        full = full_web(TWELVE[:9])
        strengths = {tie: 100 - k for k, tie in enumerate(full.ties)}
        self.assertEqual(rest_of(full, {"e": (1, 7), "a": (0, 0)}, strengths=strengths),
                         pictured(slow_rest(full, {"e": (1, 7), "a": (0, 0)}, strengths)))

    def test_near_rest(self):
        fixed = {"a": (0, 0), "b": (3, 1)}
        picture = rest_of(KITE, fixed)
        for value in bent(picture):
            self.is_bool(is_rest(KITE, fixed, value), value == picture and slow_is_picture(KITE, value))
        strong = {tie: 2 + k for k, tie in enumerate(KITE.ties)}
        self.is_bool(is_rest(KITE, fixed, picture, strengths=strong), False)
        self.is_bool(is_rest(KITE, {"a": (0, 0), "b": (3, 2)}, picture), False)
        # True in the place of 1.
        self.is_bool(is_rest(ONE, {"a": (1, 0)}, {"a": ((1, 1), (0, 1))}), True)
        for value in ({"a": ((True, 1), (0, 1))}, {"a": ((1, 1), (False, 1))}, {"a": ((1, True), (0, 1))}, {"a": (1, 0)}):
            self.is_bool(is_rest(ONE, {"a": (1, 0)}, value), False)

    def test_wrong_arguments(self):
        def asked(web, fixed, strengths):
            return rest_of(web, fixed, strengths=strengths)

        def judged(web, fixed, strengths):
            return is_rest(web, fixed, None, strengths=strengths)

        loose = {("a", "b"): 1, ("c", "d"): 1}
        for call in (asked, judged):
            for value in [*WRONG, *OBJECTS, {"a": (0, 1001)}, {"x": (0, 0)}, {"a": (0, True)}, {"a": [0, 0]}]:
                self.refuses(InvalidCorners, call, KITE, value, 3)
                self.refuses(InvalidCorners, call, APART, value, None)
            for value in [*WRONG[1:], *OBJECTS, {}, {tie: 0 for tie in KITE.ties}, {tie: 101 for tie in KITE.ties},
                          {tie: True for tie in KITE.ties}, {tie: 1 for tie in KITE.ties[1:]}, loose]:
                self.refuses(InvalidOperation, call, KITE, {"a": (0, 0)}, value)
            self.refuses(InvalidOperation, call, APART, {"a": (0, 0)}, loose)
            self.refuses(InvalidOperation, call, APART, {"a": (0, 0), "c": (1, 1)}, None)
        for value in [*WRONG, *OBJECTS]:
            self.is_bool(is_rest(KITE, {"a": (0, 0)}, value), False)


class Energy(Case):

    def test_energies_and_sums(self):
        chance = random.Random(104)
        for web in [*WEBS, APART, Web(TWELVE, ())]:
            for strengths in (None, some_strengths(web, chance)):
                one, other = by_chance(web, chance), by_chance(web, chance)
                self.assertEqual(energy(web, one, strengths=strengths), slow_energy(web, one, strengths))
                self.assertEqual(energy(web, other), slow_energy(web, other))
                both = moved(web, one, other)
                self.assertEqual(list(both), list(web.places))
                self.assertEqual(read(both), {place: (read(one)[place][0] + read(other)[place][0],
                                                      read(one)[place][1] + read(other)[place][1]) for place in both})
                self.is_bool(is_picture(web, both), True)
                self.assertEqual(moved(web, dict(reversed(one.items())), other), both)

    def test_least_energy(self):
        # [14.3]: whoever moves places without corners has as much more energy as the picture of the differences.
        chance = random.Random(105)
        for web in [web for web in WEBS if len(web) > 1]:
            for strengths in (None, some_strengths(web, chance)):
                fixed = some_corners(web, chance)
                rest = rest_of(web, fixed, strengths=strengths)
                off = by_chance(web, chance)
                off = {place: (whole(0), whole(0)) if place in fixed else off[place] for place in web.places}
                least = Fraction(*energy(web, rest, strengths=strengths))
                more = Fraction(*energy(web, off, strengths=strengths))
                found = Fraction(*energy(web, moved(web, rest, off), strengths=strengths))
                self.assertEqual(found, least + more)
                self.is_bool(more > 0, any(point != (whole(0), whole(0)) for point in off.values()))

    def test_great_numbers(self):
        great = {"a": ((10 ** 80, 7), (1, 10 ** 90 + 7)), "b": ((-1, 10 ** 70), (0, 1))}
        self.is_bool(is_picture(TWO, great), True)
        self.assertEqual(energy(TWO, great), slow_energy(TWO, great))
        self.assertEqual(moved(TWO, great, great)["a"][0], (2 * 10 ** 80, 7))
        self.is_bool(is_flat(TWO, great), True)
        self.assertEqual(drawing_shown(TWO, great).table, {"a": ("b",), "b": ("a",)})

    def test_wrong_arguments(self):
        picture = {"a": (whole(0), whole(0)), "b": (whole(1), whole(0))}
        for value in [*WRONG, *OBJECTS, {"a": (whole(0), whole(0))}, {"a": (0, 0), "b": (0, 0)},
                      {"a": ((True, 1), whole(0)), "b": (whole(1), whole(0))}]:
            self.refuses(InvalidPicture, energy, TWO, value)
            self.refuses(InvalidPicture, lambda one: energy(TWO, one, strengths=3), value)
            self.refuses(InvalidPicture, moved, TWO, value, None)
            self.refuses(InvalidPicture, moved, TWO, picture, value)
            self.refuses(InvalidPicture, moved, TWO, value, picture)
            self.refuses(InvalidPicture, is_flat, TWO, value)
            self.refuses(InvalidPicture, drawing_shown, TWO, value)
        for value in [*WRONG[1:], *OBJECTS, {}, {("a", "b"): 0}, {("a", "b"): True}, {("a", "b"): 101}]:
            self.refuses(InvalidOperation, lambda one: energy(TWO, picture, strengths=one), value)
        self.assertEqual(energy(TWO, picture, strengths={("a", "b"): 100}), (100, 1))


class Flat(Case):

    def test_flat_pictures_by_chance(self):
        chance = random.Random(106)
        counts = {True: 0, False: 0}
        for web in [ONE, TWO, LINE, KITE, FOUR, APART, BOW, THREE, Web(("a", "b", "c"), (("a", "b"),)),
                    Web(("a", "b"), ())] * 200:
            picture = by_chance(web, chance, chance.choice((1, 2, 4)), chance.choice(((1,), (1, 2), (3, 4))))
            spots = read(picture)
            right = slow_is_clear(web, spots, [place for place in web.places if web.neighbours(place)])
            self.is_bool(is_flat(web, picture), right)
            counts[right] += 1
            if right and web.hangs:
                shuffled = dict(reversed(picture.items()))
                self.assertEqual(drawing_shown(web, shuffled).table, slow_shown(web, spots))
            else:
                self.refuses(InvalidOperation, drawing_shown, web, picture)
        self.assertGreater(min(counts.values()), 300)

    def test_places_on_ties(self):
        # A place without ties on a straight tie shares no point of a tie; it is no grid, though.
        web = Web(("a", "b", "c"), (("a", "b"),))
        spots = {"a": (0, 0), "b": (2, 0), "c": (1, 0)}
        self.is_bool(is_flat(web, pictured(spots)), True)
        self.is_bool(is_grid(web, spots), False)
        self.is_bool(is_flat(web, pictured({**spots, "c": (2, 0)})), False)
        self.is_bool(is_flat(LINE, pictured(spots)), False)
        self.is_bool(is_flat(LINE, pictured({"a": (0, 0), "b": (1, 0), "c": (2, 0)})), True)
        self.refuses(InvalidOperation, drawing_shown, web, pictured(spots))

    def test_grids_are_flat_pictures(self):
        for drawing in (SIX, flat, triangulated(8, 6), TWENTY):
            for rim in drawing.rims[:3]:
                grid = corners(drawing, rim, three_trees(drawing, rim))
                self.is_bool(is_flat(drawing.web, pictured(grid)), True)
                self.assertEqual(drawing_shown(drawing.web, pictured(grid)), drawing_by_grid(drawing.web, grid))

    def test_bends_and_areas(self):
        chance = random.Random(107)
        seen = set()
        for _ in range(600):
            web = chance.choice((KITE, FOUR, WHEEL, PRISM))
            picture = by_chance(web, chance)
            ring = tuple(chance.sample(web.places, chance.randint(3, len(web))))
            bend = bend_of(picture, ring)
            self.assertEqual(bend, slow_bend(picture, ring))
            self.assertEqual(bend_of(picture, ring[::-1]), -bend)
            self.assertEqual(bend_of(picture, ring[1:] + ring[:1]), bend)
            area = double_area(picture, ring)
            self.assertEqual(area, slow_area(picture, ring))
            self.assertEqual(double_area(picture, ring[::-1]), (-area[0], area[1]))
            self.assertTrue(bend == 0 or bend == (area[0] > 0) - (area[0] < 0))
            seen.add((bend, len(ring)))
        self.assertLessEqual({(1, 3), (-1, 3), (0, 3), (1, 4), (-1, 4), (0, 5)}, seen)
        # Five places each two neighbours of which turn left, but twice round.
        star = pictured({"a": (0, 10), "b": (-6, -8), "c": (9, 3), "d": (-9, 3), "e": (6, -8)})
        self.assertEqual([bend_of(star, tuple("abcde")), bend_of(star, tuple("adbec"))], [0, 1])
        # Four on one line, and three of four.
        self.assertEqual(bend_of(pictured({name: (k, k) for k, name in enumerate("abcd")}), tuple("abcd")), 0)
        self.assertEqual(bend_of(pictured({"a": (0, 0), "b": (1, 0), "c": (2, 0), "d": (0, 5)}), tuple("abcd")), 0)

    def test_pictures_without_a_web(self):
        many = pictured({f"x{a}": (0, 0) for a in "abc"})
        self.refuses(InvalidPicture, bend_of, {"x1": (whole(0), whole(0))}, None)
        many = pictured({f"{a}{b}": (k, k * k) for k, (a, b) in enumerate(itertools.product("abcdef", repeat=2))})
        ring = tuple(many)
        self.assertEqual([bend_of(many, ring), bend_of(many, ring[::-1])], [1, -1])
        self.assertEqual(double_area(many, ring), slow_area(many, ring))
        for value in [*WRONG, *OBJECTS, {"a": (0, 0)}, {"A": (whole(0), whole(0))}, {1: (whole(0), whole(0))},
                      {"a": (whole(0),)}, {"a": (whole(0), (2, 2))}, {("a",): (whole(0), whole(0))}]:
            if value != {}:
                self.refuses(InvalidPicture, bend_of, value, None)
                self.refuses(InvalidPicture, double_area, value, None)
        picture = springs(flat, ("a", "b", "c"))
        for ring in [("a", "b"), ("a", "b", "a"), ("a", "b", "x"), ["a", "b", "c"], ("a", "b", None), ("a", "b", ("c",)),
                     *WRONG, *OBJECTS]:
            self.refuses(InvalidRim, bend_of, picture, ring)
            self.refuses(InvalidRim, double_area, picture, ring)
            self.refuses(InvalidRim, bend_of, {}, ring)
            self.refuses(InvalidRim, double_area, {}, ring)

    def test_areas_of_all_rims(self):
        # [14.4]: they add up to 0, in whatever picture of the web.
        chance = random.Random(108)
        for web in (FOUR, KITE, WHEEL, PRISM, GLUED, THREE, OCTA, TWENTY.web, ring_web(("a", "c", "b"))):
            for drawing in itertools.islice(each_drawing(web), 3):
                picture = by_chance(web, chance)
                self.assertEqual(sum(Fraction(*double_area(picture, rim)) for rim in drawing.rims), 0)


class Springs(Case):

    def check(self, drawing, rim, strengths):
        web = drawing.web
        picture = springs(drawing, rim, strengths=strengths)
        self.assertEqual(picture, rest_of(web, rim_corners(drawing, rim), strengths=strengths))
        self.assertEqual(list(picture), list(web.places))
        self.is_bool(is_rest(web, rim_corners(drawing, rim), picture, strengths=strengths), True)
        self.is_bool(is_flat(web, picture), True)
        self.assertEqual([bend_of(picture, one) for one in drawing.rims], [1 if one == rim else -1 for one in drawing.rims])
        self.assertEqual(drawing_shown(web, picture), drawing)
        self.assertEqual(slow_shown(web, read(picture)), drawing.table)

    def test_springs(self):
        chance = random.Random(109)
        for drawing in HELD:
            for rim in drawing.rims[::1 if len(drawing.web) < 9 else 6]:
                self.check(drawing, rim, None)
                self.check(drawing, rim, some_strengths(drawing.web, chance))
                self.check(drawing.mirror, drawing.mirror.rims[0], {tie: chance.choice((1, 100)) for tie in drawing.web.ties})

    def test_rim_corners(self):
        self.assertEqual(list(rim_corners(flat, ("a", "d", "b")).items()), [("a", (0, 0)), ("b", (2, 4)), ("d", (1, 1))])
        ring = drawing_of(ring_web(TWELVE))
        self.assertEqual(rim_corners(ring, TWELVE), {place: (k, k * k) for k, place in enumerate(TWELVE)})
        self.is_bool(is_corners(ring.web, rim_corners(ring, TWELVE)), True)
        # Rims of drawings that are no blocks: those that have three places or more, each one once.
        bow = drawing_of(BOW)
        for rim in bow.rims:
            if len(rim) == 3:
                self.assertEqual(rim_corners(bow, rim), {place: (k, k * k) for k, place in enumerate(rim)})
            else:
                self.assertLess(len(set(rim)), len(rim))
                self.refuses(InvalidRim, rim_corners, bow, rim)
        for web in (ONE, TWO, LINE):
            self.refuses(InvalidRim, rim_corners, drawing_of(web), drawing_of(web).rims[0])
            self.refuses(InvalidRim, springs, drawing_of(web), drawing_of(web).rims[0])

    def test_not_of_all_blocks(self):
        # [0.23]: the rest of a block need not be a picture in which no rim folds.
        kite = drawing_of(KITE)
        picture = rest_of(KITE, rim_corners(kite, ("a", "b", "c") if ("a", "b", "c") in kite else ("a", "c", "b")))
        self.is_bool(is_flat(KITE, picture), False)
        self.assertIn(0, [bend_of(picture, rim) for rim in kite.rims])

    def test_wrong_arguments(self):
        for value in not_drawings():
            self.refuses(InvalidDrawing, rim_corners, value, None)
            self.refuses(InvalidDrawing, springs, value, None)
            self.refuses(InvalidDrawing, lambda one: springs(one, None, strengths=3), value)
        for rim in [("b", "c", "a"), ("a", "c", "b"), ("a", "b", "c", "d"), ["a", "b", "c"], *WRONG, *OBJECTS]:
            self.refuses(InvalidRim, rim_corners, flat, rim)
            self.refuses(InvalidRim, springs, flat, rim)
            self.refuses(InvalidRim, lambda one: springs(flat, one, strengths=3), rim)
        for value in [*WRONG[1:], *OBJECTS, {tie: 0 for tie in FOUR.ties}, {tie: True for tie in FOUR.ties}]:
            self.refuses(InvalidOperation, lambda one: springs(flat, ("a", "b", "c"), strengths=one), value)
        for web in (KITE, GLUED, THREE, BOW, ring_web(("a", "b", "c"))):
            drawing = drawing_of(web)
            rim = [one for one in drawing.rims if len(set(one)) == len(one)][0]
            self.refuses(InvalidOperation, springs, drawing, rim)

    def test_nothing_changes(self):
        fixed = {"b": (1, 1), "a": (0, 0)}
        strengths = {tie: 2 for tie in reversed(KITE.ties)}
        rest_of(KITE, fixed, strengths=strengths)["a"] = None
        self.assertEqual([list(fixed.items()), list(strengths)], [[("b", (1, 1)), ("a", (0, 0))], list(KITE.ties[::-1])])
        self.assertEqual(Drawing(FOUR, flat.table), flat)
