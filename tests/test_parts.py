"""[5.1] to [5.4] and [16.6]: the tree of parts of a block."""

import itertools
import random

from flatwebs.base.webs import Web, full_web, ring_web
from flatwebs.errors import InvalidNumber, InvalidOperation, InvalidPart, InvalidTie, InvalidWeb, UnknownName
from flatwebs.outer.webs import is_outer_web
from flatwebs.tree.partings import is_held, parting_pairs, sides_at
from flatwebs.tree.parts import PartTree, is_tree_of
from tests.samples import (
    APART, BOW, FOUR, GLUED, HOUSES, KITE, OBJECTS, ONE, PETERSEN, PRISM, THREE, TWELVE, TWO, WHEEL, WRONG, Case,
    bent, blocks_on, every_full, held_webs, not_webs, slow_lots, woven_webs)

FORTY = Web(TWELVE, tuple(itertools.combinations(TWELVE, 2))[:40])
BLOCKS = [*blocks_on(3, 4, 5), *held_webs(), GLUED, KITE, HOUSES, THREE, PETERSEN, FORTY, every_full(9),
          ring_web(TWELVE), ring_web(TWELVE).with_tie("a", "g"), *woven_webs(7, 20, 1), *woven_webs(10, 20, 2),
          *woven_webs(12, 30, 3)]
LETTERS = "abcdefghijklm"
# Two full webs with a common pair that is not tied: no bundle between them.
ONE_SEVEN = full_web(TWELVE[:7])
OTHER_SEVEN = full_web(("a", "b") + TWELVE[7:])
SEVENS = (ONE_SEVEN.without_tie("a", "b")) + (OTHER_SEVEN.without_tie("a", "b"))


def pairs(text):
    """Ties told as words of two letters each."""
    return tuple(tuple(word) for word in text.split())


def slow_sides(parts, doors, k):
    return sorted([*parts[k][2], *[pair for pair, i, j in doors if k in (i, j)]])


def slow_way(parts, doors, i, j):
    """All ways along doors from one part to another one, as lists of doors."""
    ways = []
    todo = [((i,), ())]
    while todo:
        seen, used = todo.pop()
        if seen[-1] == j:
            ways.append([doors[d] for d in used])
            continue
        for d, (_, m, n) in enumerate(doors):
            if seen[-1] in (m, n) and m + n - seen[-1] not in seen:
                todo.append((seen + (m + n - seen[-1],), used + (d,)))
    return ways


def slow_is_right(kind, places, sides):
    """Rules 1 to 3 for one part."""
    near = {place: [side for side in sides if place in side] for place in places}
    if kind == "bundle":
        return len(places) == 2 and len(sides) >= 3
    if len(set(sides)) < len(sides):
        return False
    if kind == "ring":
        return len(places) >= 3 and len(slow_lots(places, sides)) == 1 and all(len(near[p]) == 2 for p in places)
    if len(places) < 4 or len(slow_lots(places, sides)) != 1:
        return False
    return all(len(slow_lots([p for p in places if p not in gone], sides)) == 1
               for many in (1, 2) for gone in itertools.combinations(places, many))


def slow_is_tree(parts, doors):
    """The eight rules of [5.2], one by one, for parts and doors that are told in the right form."""
    indices = range(len(parts))
    if not all(slow_is_right(parts[k][0], parts[k][1], slow_sides(parts, doors, k)) for k in indices):
        return False
    for i, j in itertools.combinations(indices, 2):
        ways = slow_way(parts, doors, i, j)
        if len(ways) != 1 or set(parts[i][2]) & set(parts[j][2]):
            return False
        for place in set(parts[i][1]) & set(parts[j][1]):
            if not all(place in pair for pair, _, _ in ways[0]):
                return False
    if any(parts[i][0] == parts[j][0] and parts[i][0] in ("ring", "bundle") for _, i, j in doors):
        return False
    return len({p for part in parts for p in part[1]}) <= 12 and sum(len(part[2]) for part in parts) <= 40


def slow_parts(web):
    """The places, the kind and the number of sides of each part of a block.

    Pieces are cut in two, as long as they can be, and then rings, and bundles, put together
    again. A side is a pair and a number: that of the cut, 0 for a tie.
    """
    count = itertools.count(1)

    def cut(places, sides):
        new = next(count)
        bare = [pair for pair, _ in sides]
        for pair in itertools.combinations(places, 2):
            if len(places) > 2 and bare.count(pair) > 1:
                alike = [side for side in sides if side[0] == pair]
                others = [side for side in sides if side[0] != pair]
                return cut(pair, alike + [(pair, new)]) + cut(places, others + [(pair, new)])
            lots = slow_lots([p for p in places if p not in pair], bare)
            if len(places) > 3 and len(lots) > 1:
                inner = [side for side in sides if set(side[0]) & set(lots[0])]
                others = [side for side in sides if side not in inner]
                return cut(tuple(sorted(lots[0] + pair)), inner + [(pair, new)]) + cut(
                    tuple(p for p in places if p not in lots[0]), others + [(pair, new)])
        return [[places, sides]]

    def kind_of(places, sides):
        if len(places) == 2:
            return "bundle"
        return "ring" if all(sum(p in pair for pair, _ in sides) == 2 for p in places) else "held"

    found = cut(web.places, [(tie, 0) for tie in web.ties])
    while True:
        joints = [(one, other, side) for one, other in itertools.combinations(found, 2) for side in one[1]
                  if side in other[1] and kind_of(*one) == kind_of(*other) != "held"]
        if not joints:
            return sorted((places, kind_of(places, sides), len(sides)) for places, sides in found)
        one, other, gone = joints[0]
        found = [part for part in found if part is not one and part is not other]
        found.append([tuple(sorted({*one[0], *other[0]})), [s for s in one[1] + other[1] if s != gone]])


class Examples(Case):

    def test_examples(self):
        glued_web = full_web(("a", "b", "c", "d")) + full_web(("a", "b", "e", "f"))
        glued = PartTree.of_web(glued_web)
        self.assertEqual(
            [str(glued), glued[0], glued[1][:2], glued.doors, glued.part_with("e", "b"), glued.parted_pairs,
             len(PartTree.of_web(WHEEL))],
            ["tree of 3 parts, 2 doors", ("bundle", ("a", "b"), (("a", "b"),)), ("held", ("a", "b", "c", "d")),
             ((("a", "b"), 0, 1), (("a", "b"), 0, 2)), 2, (("a", "b"),), 1])
        pan = PartTree.of_web(ring_web(("a", "b", "c", "d", "e")).with_tie("a", "c"))
        self.assertEqual(
            [[part[:2] for part in pan], pan.sides(0), pan.beside(1), pan.parted_pairs],
            [[("ring", ("a", "b", "c")), ("bundle", ("a", "c")), ("ring", ("a", "c", "d", "e"))],
             (("a", "b"), ("a", "c"), ("b", "c")), (0, 2), (("a", "c"), ("a", "d"), ("c", "e"))])


class Trees(Case):

    def test_tree_and_joined_web(self):
        for web in BLOCKS:
            tree = PartTree.of_web(web)
            self.assertEqual(tree.joined, web)
            self.assertTrue(slow_is_tree(tree.parts, tree.doors), web.ties)
            self.is_bool(is_tree_of(web, (tree.parts, tree.doors)), True)
            self.assertEqual(PartTree(tree.parts, tree.doors), tree)
            self.assertTrue(tree.joined.is_block)

    def test_parts_by_cutting(self):
        for web in BLOCKS:
            tree = PartTree.of_web(web)
            found = [(part[1], part[0], len(tree.sides(k))) for k, part in enumerate(tree)]
            self.assertEqual(found, slow_parts(web), web.ties)

    def test_parted_pairs(self):
        # [5.4]
        for web in BLOCKS:
            tree = PartTree.of_web(web)
            self.assertEqual(tree.parted_pairs, parting_pairs(web))
            self.is_bool(is_held(web), len(tree) == 1 and tree[0][0] == "held")
            for k, (kind, places, _) in enumerate(tree):
                if kind == "bundle":
                    self.assertEqual(len(tree.sides(k)), len(sides_at(web, *places)))

    def test_outer_by_trees(self):
        # [16.6]
        for web in BLOCKS:
            tree = PartTree.of_web(web)
            kinds = [part[0] for part in tree]
            fine = all(len(tree.sides(k)) == 3 and len(tree[k][2]) == 1 for k, kind in enumerate(kinds)
                       if kind == "bundle")
            self.is_bool(is_outer_web(web), "held" not in kinds and fine)

    def test_members(self):
        for web in BLOCKS:
            tree = PartTree.of_web(web)
            for k, (kind, places, ties) in enumerate(tree):
                self.assertEqual(tree[k], (kind, places, ties))
                self.assertEqual(tree.sides(k), tuple(slow_sides(tree.parts, tree.doors, k)))
                self.assertEqual(tree.part_web(k), Web(places, tuple(sorted(set(tree.sides(k))))))
                to = [j if i == k else i for _, i, j in tree.doors if k in (i, j)]
                self.assertEqual(tree.beside(k), tuple(sorted(to)))
                for a, b in ties:
                    self.assertEqual([tree.part_with(a, b), tree.part_with(b, a)], [k, k])
            for place in web.places:
                having = tuple(k for k, part in enumerate(tree.parts) if place in part[1])
                self.assertEqual(tree.parts_at(place), having)

    def test_edges(self):
        triangle = PartTree.of_web(ring_web(("a", "b", "c")))
        self.assertEqual(triangle.parts, (("ring", ("a", "b", "c"), pairs("ab ac bc")),))
        self.assertEqual([triangle.doors, triangle.parted_pairs, triangle.beside(0)], [(), (), ()])
        self.assertEqual(len(PartTree.of_web(ring_web(TWELVE)).parted_pairs), 54)
        self.assertEqual([part[0] for part in PartTree.of_web(THREE)], ["bundle", "ring", "ring", "ring"])
        self.assertEqual(PartTree.of_web(THREE).sides(0), (("a", "b"),) * 3)
        self.assertEqual(PartTree.of_web(THREE.with_tie("a", "b")).sides(0), (("a", "b"),) * 4)
        self.assertEqual(PartTree.of_web(THREE).part_web(0), TWO)
        self.assertEqual([len(web.ties) for web in (FORTY, SEVENS)], [40, 40])
        self.assertEqual(PartTree.of_web(SEVENS).parts, (
            ("held", TWELVE[:7], tuple(tie for tie in itertools.combinations(TWELVE[:7], 2) if tie != ("a", "b"))),
            ("held", ("a", "b") + TWELVE[7:], tuple(tie for tie in OTHER_SEVEN if tie != ("a", "b")))))
        self.assertEqual(PartTree.of_web(SEVENS).doors, ((("a", "b"), 0, 1),))

    def test_parts_beside_in_another_order(self):
        # The door with the less pair leads to the part with the greater index.
        tree = PartTree.of_web(full_web(tuple("bcde")).without_tie("b", "c").without_tie("d", "e") + Web.of_ties(
            ("b", "z"), ("c", "z"), ("a", "d"), ("a", "e")))
        self.assertEqual(tree.doors, ((("b", "c"), 1, 2), (("d", "e"), 0, 1)))
        self.assertEqual(tree.beside(1), (0, 2))

    def test_signs(self):
        tree = PartTree.of_web(KITE)
        same = PartTree(tree.parts, tree.doors)
        other = PartTree.of_web(THREE)
        self.is_bool(tree == same, True)
        self.is_bool(tree != same, False)
        self.is_bool(tree == other, False)
        self.is_bool(PartTree.of_web(FOUR) == PartTree.of_web(ring_web(("a", "b", "c"))), False)
        for value in WRONG + OBJECTS + [tree.parts, (tree.parts, tree.doors)]:
            self.is_bool(tree == value, False)
            self.is_bool(tree != value, True)
            self.is_bool(value in tree, False)
        self.assertTrue(all(part in tree for part in tree.parts))
        self.is_bool(tree[0][:2] in tree, False)
        self.is_bool(list(tree[0]) in tree, False)
        self.assertEqual([len(tree), list(tree), str(other)], [3, list(tree.parts), "tree of 4 parts, 3 doors"])

    def test_renamed(self):
        chance = random.Random(4)
        for web in BLOCKS:
            names = list(web.places)
            chance.shuffle(names)
            names = dict(zip(web.places, names))
            tree = PartTree.of_web(web)
            self.assertEqual(tree.renamed(names), PartTree.of_web(web.renamed(names)))
            self.assertEqual(tree, PartTree.of_web(web))
        tree = PartTree.of_web(KITE)
        right = {"d": "z", "a": "y", "b": "q", "c": "p"}
        self.assertEqual(tree.renamed(right), PartTree.of_web(KITE.renamed(right)))
        for wrong in [*bent(right), *WRONG, *OBJECTS]:
            if not (isinstance(wrong, dict) and set(wrong) == set("abcd") and len(set(map(str, wrong.values()))) == 4
                    and all(isinstance(v, str) and v.isalpha() and v.islower() for v in wrong.values())):
                self.refuses(InvalidOperation, tree.renamed, wrong)


class Rules(Case):

    GLUED_PARTS = (("bundle", ("a", "b"), pairs("ab")), ("held", ("a", "b", "c", "d"), pairs("ac ad bc bd cd")),
                   ("held", ("a", "b", "e", "f"), pairs("ae af be bf ef")))
    GLUED_DOORS = ((("a", "b"), 0, 1), (("a", "b"), 0, 2))

    def wrong(self, parts, doors, slow=True):
        self.refuses(InvalidPart, PartTree, parts, doors)
        if slow:
            self.assertFalse(slow_is_tree(parts, doors))
        for web in (FOUR, GLUED, ring_web(TWELVE)):
            self.is_bool(is_tree_of(web, (parts, doors)), False)

    def test_right_ones(self):
        self.assertEqual(PartTree(self.GLUED_PARTS, self.GLUED_DOORS), PartTree.of_web(GLUED))
        self.is_bool(is_tree_of(FOUR, (self.GLUED_PARTS, self.GLUED_DOORS)), False)

    def test_rings(self):
        self.wrong((("ring", ("a", "b"), pairs("ab")),), ())
        self.wrong((("ring", ("a", "b", "c"), pairs("ab bc")),), ())
        self.wrong((("ring", ("a", "b", "c", "d"), pairs("ab ac bc bd cd")),), ())
        self.wrong((("ring", tuple("abcdef"), pairs("ab ac bc de df ef")),), ())
        self.wrong((("ring", ("a", "b", "c", "d"), pairs("ab ac bc")),), ())
        self.wrong((("ring", ("a", "b", "c"), pairs("ab ac bc")), ("held", ("b", "c", "d", "e"), pairs(
            "bd be cd ce de"))), ((("b", "c"), 0, 1),))

    def test_bundles(self):
        self.wrong((("bundle", ("a", "b"), pairs("ab")),), ())
        self.wrong((("bundle", ("a", "b"), ()),), ())
        self.wrong((("bundle", ("a", "b", "c"), pairs("ab ac bc")),), ())
        self.wrong((("bundle", ("a", "b"), ()), ("held", ("a", "b", "c", "d"), pairs("ac ad bc bd cd")),
                    ("held", ("a", "b", "e", "f"), pairs("ae af be bf ef"))), self.GLUED_DOORS)
        self.wrong((("bundle", ("a", "b"), pairs("ab")), ("held", ("a", "b", "c", "d"), pairs("ac ad bc bd cd"))),
                   self.GLUED_DOORS[:1])

    def test_held_parts(self):
        self.wrong((("held", ("a", "b", "c"), pairs("ab ac bc")),), ())
        self.wrong((("held", tuple("abcd"), pairs("ab ac bc bd cd")),), ())
        self.wrong((("held", tuple("abcdef"), GLUED.ties),), ())
        self.wrong((("held", tuple("abcd"), pairs("ab ac ad bc bd cd")), ("held", tuple("abef"), pairs(
            "ae af be bf ef"))), ((("a", "b"), 0, 1),))

    def test_ways(self):
        self.wrong(self.GLUED_PARTS, ())
        self.wrong(self.GLUED_PARTS, self.GLUED_DOORS[:1])
        self.wrong(self.GLUED_PARTS, self.GLUED_DOORS + ((("a", "b"), 1, 2),))
        self.wrong((("held", tuple("abcd"), FOUR.ties), ("held", tuple("efgh"), pairs("ef eg eh fg fh gh"))), ())
        # Two doors between the same two parts, and otherwise all right but for rule 7.
        self.wrong((("held", tuple("abcd"), pairs("ac ad bc bd")), ("held", tuple("abcde"), pairs(
            "ac ad ae bc bd be ce de"))), ((("a", "b"), 0, 1), (("c", "d"), 0, 1)))
        # Three parts in a circle, where each one has three sides and more.
        circle = (("ring", tuple("abx"), pairs("ax")), ("held", tuple("abcd"), pairs("ac ad bc bd")),
                  ("held", tuple("bxcd"), pairs("bc cx dx")))
        self.refuses(InvalidPart, PartTree, circle, ((("a", "b"), 0, 1), (("b", "x"), 0, 2), (("c", "d"), 1, 2)))

    def test_a_circle_of_doors(self):
        # All is right but for the ways: each place of a door is in two parts only.
        circle = (("held", tuple("abcd"), pairs("ac ad bc bd")), ("held", tuple("abef"), pairs("ae af be bf")),
                  ("held", tuple("cdef"), pairs("ce cf de df")))
        doors = ((("a", "b"), 0, 1), (("c", "d"), 0, 2), (("e", "f"), 1, 2))
        self.wrong(circle, doors)
        self.wrong(circle + (("held", tuple("ghij"), pairs("gh gi gj hi hj ij")),), doors)

    def test_doors_between_a_kind(self):
        self.wrong((("ring", ("a", "b", "c"), pairs("ac bc")), ("ring", ("a", "b", "d"), pairs("ad bd"))),
                   ((("a", "b"), 0, 1),))
        self.wrong((("bundle", ("a", "b"), ()), ("bundle", ("a", "b"), pairs("ab"))), ((("a", "b"), 0, 1),))

    def test_ties_of_two_parts(self):
        self.wrong((("bundle", ("a", "b"), pairs("ab")), ("ring", ("a", "b", "c"), pairs("ab ac bc")),
                    ("ring", ("a", "b", "d"), pairs("ad bd"))), self.GLUED_DOORS)
        self.wrong((("held", tuple("abcd"), pairs("ac ad bc bd cd")), ("held", tuple("abce"), pairs(
            "ac ae bc be ce"))), ((("a", "b"), 0, 1),))

    def test_common_places(self):
        prism = tuple(tie for tie in PRISM if tie != ("e", "f"))
        right = (("held", tuple("abcdef"), prism), ("ring", ("e", "f", "g"), pairs("eg fg")))
        door = ((("e", "f"), 0, 1),)
        self.assertEqual(len(PartTree(right, door).joined), 7)
        # The place a is in both parts, but not in the door.
        parts = (right[0], ("ring", ("a", "e", "f"), pairs("ae af")))
        self.wrong((parts[1], right[0])[::-1], door)
        # The two rings share a place that is not in the pair of the held part's doors.
        parts = (("held", tuple("abcd"), pairs("ac ad bc bd")), ("ring", ("a", "b", "e"), pairs("ae be")),
                 ("ring", ("c", "d", "e"), pairs("ce de")))
        self.wrong(parts, ((("a", "b"), 0, 1), (("c", "d"), 0, 2)))

    def test_too_great_for_a_web(self):
        ring = tuple(LETTERS)
        ties = tuple(sorted(tuple(sorted(pair)) for pair in zip(ring, ring[1:] + ring[:1])))
        self.wrong((("ring", ring, ties),), ())
        parts = (("bundle", ("a", "b"), pairs("ab")),) + PartTree.of_web(SEVENS).parts
        self.wrong(parts, self.GLUED_DOORS)
        self.wrong((("held", tuple("abcdefghij"), tuple(itertools.combinations("abcdefghij", 2))),), ())
        long = "abcdefghi"
        self.wrong((("ring", ("a", "b", long), (("a", "b"), ("a", long), ("b", long))),), (), slow=False)

    def test_near_trees(self):
        for web in (KITE, GLUED, THREE, FOUR, woven_webs(8, 1, 9)[0], SEVENS):
            tree = PartTree.of_web(web)
            right = (tree.parts, tree.doors)
            for value in bent(right):
                if value == right and "True" not in str(value) and "False" not in str(value):
                    continue
                self.is_bool(is_tree_of(web, value), False)
                if isinstance(value, tuple) and len(value) == 2:
                    try:
                        found = PartTree(value[0], value[1])
                    except InvalidPart:
                        continue
                    self.assertNotEqual(found.joined, web)
                    self.assertTrue(slow_is_tree(*value))

    def test_tables_of_small_trees(self):
        # All trees with one held part and one ring, told with all sets of ties between their places.
        for one in range(64):
            ties = tuple(tie for k, tie in enumerate(FOUR) if one >> k & 1)
            for other in range(8):
                side = tuple(tie for k, tie in enumerate(pairs("ab ae be")) if other >> k & 1)
                for kind in ("ring", "held"):
                    parts = ((kind, tuple("abcd"), ties), ("ring", ("a", "b", "e"), side))
                    doors = ((("a", "b"), 0, 1),)
                    if slow_is_tree(parts, doors):
                        self.assertEqual(PartTree(parts, doors).parts, parts)
                    else:
                        self.refuses(InvalidPart, PartTree, parts, doors)


class Wrong(Case):

    def test_no_trees(self):
        tree = PartTree.of_web(GLUED)
        for value in WRONG + OBJECTS:
            self.refuses(InvalidPart, PartTree, value, value)
            self.refuses(InvalidPart, PartTree, value, tree.doors)
            if value != ():
                self.refuses(InvalidPart, PartTree, (FOUR_PART,), value)
            self.refuses(InvalidPart, PartTree, tree.parts, value)
            self.is_bool(is_tree_of(GLUED, value), False)
            self.is_bool(is_tree_of(FOUR, (value, value)), False)
            self.is_bool(is_tree_of(GLUED, (tree.parts, value)), False)
            self.is_bool(is_tree_of(GLUED, (tree.parts + (value,), tree.doors)), False)
            self.is_bool(is_tree_of(GLUED, (tree.parts, tree.doors + (value,))), False)
        self.is_bool(is_tree_of(GLUED, tree), False)
        self.is_bool(is_tree_of(GLUED, (tree.parts, tree.doors, ())), False)

    def test_booleans_in_doors(self):
        tree = PartTree.of_web(GLUED)
        for doors in (((("a", "b"), 0, True), (("a", "b"), 0, 2)), ((("a", "b"), False, 1), (("a", "b"), 0, 2)),
                      ((("a", "b"), -3, 1), (("a", "b"), 0, 2)), ((("a", "b"), 0, 1), (("a", "b"), 0, 3)),
                      ((("a", "b"), 1, 0), (("a", "b"), 0, 2)), ((("b", "a"), 0, 1), (("a", "b"), 0, 2)),
                      ((("a", "b"), 0, 2), (("a", "b"), 0, 1)), ((("a", "c"), 0, 1), (("a", "b"), 0, 2))):
            self.refuses(InvalidPart, PartTree, tree.parts, doors)
            self.is_bool(is_tree_of(GLUED, (tree.parts, doors)), False)

    def test_no_webs_and_no_blocks(self):
        for value in not_webs():
            self.refuses(InvalidWeb, PartTree.of_web, value)
            self.refuses(InvalidWeb, is_tree_of, value, None)
        for web in (ONE, TWO, APART, BOW, Web.of_ties(*pairs("ab bc")), Web(TWELVE, ())):
            self.refuses(InvalidOperation, PartTree.of_web, web)
            tree = PartTree.of_web(KITE)
            self.is_bool(is_tree_of(web, (tree.parts, tree.doors)), False)
            self.is_bool(is_tree_of(web, ((), ())), False)

    def test_indices(self):
        tree = PartTree.of_web(GLUED)
        for value in [3, -3, True, 10 ** 59, slice(0, 1), "0", *WRONG, *OBJECTS]:
            if type(value) is int and 0 <= value < 3:
                continue
            for call in (tree.__getitem__, tree.sides, tree.part_web, tree.beside):
                if isinstance(value, slice):
                    self.refuses(InvalidNumber, call, value)
                else:
                    self.refuses(InvalidNumber, call, value, value=value)

    def test_names(self):
        tree = PartTree.of_web(GLUED)
        for value in ["x", "ab", *WRONG, *OBJECTS]:
            self.refuses(UnknownName, tree.parts_at, value, word=value)
            self.refuses(UnknownName, tree.part_with, value, "zz", word=value)
            self.refuses(UnknownName, tree.part_with, "a", value, word=value)
        self.refuses(InvalidTie, tree.part_with, "c", "e")
        self.refuses(InvalidTie, tree.part_with, "c", "c")


FOUR_PART = ("held", ("a", "b", "c", "d"), FOUR.ties)
