"""Three trees of a triangulated drawing, one toward each place of an outer rim."""

from flatwebs.base.drawings import need_drawings
from flatwebs.base.rings import turned_to
from flatwebs.base.webs import is_row_of
from flatwebs.base.words import are_different, has_keys
from flatwebs.errors import InvalidOperation, InvalidRim, InvalidTrees, ParseError, UnknownName
from flatwebs.grid.pointings import (
    any_pointing, each_pointing, inner_places, inner_ties, points_round, rings_of_three, trees_of, turned_pointing)


def is_three_trees(drawing, rim, value):
    """Whether the value is three trees for a rim, its keys in any order."""
    need_outer(drawing, rim)
    places = inner_places(drawing, rim)
    if not has_keys(value, places) or not all([are_different(value[place], 3) for place in places]):
        return False
    return all([len(value[place]) == 3 and _is_in_order(drawing, rim, value, place) for place in places])


def three_trees(drawing, rim):
    """Any three trees for a rim."""
    need_outer(drawing, rim)
    return trees_of(drawing, rim, any_pointing(drawing, rim))


def each_three_trees(drawing, rim):
    """All three trees for a rim, each one once."""
    need_outer(drawing, rim)
    for pointing in each_pointing(drawing, rim):
        yield trees_of(drawing, rim, pointing)


def is_pointing(drawing, rim, value):
    """Whether the value is a pointing for a rim, its keys in any order."""
    need_outer(drawing, rim)
    places = inner_places(drawing, rim)
    if not has_keys(value, places) or not all([is_row_of(drawing.web, value[place], 3) for place in places]):
        return False
    # There are three times as many inner ties as inner places, so each triple is used up by them.
    return all([_ways_along(value, a, b) == 1 for a, b in inner_ties(drawing, rim)])


def pointing_of(drawing, rim, trees):
    """The pointing of three trees."""
    need_trees(drawing, rim, trees)
    return _pointing_in(trees)


def trees_by(drawing, rim, pointing):
    """The three trees with a pointing."""
    if not is_pointing(drawing, rim, pointing):
        raise InvalidTrees("no pointing for this rim")
    return trees_of(drawing, rim, {place: pointing[place] for place in inner_places(drawing, rim)})


def ways_of(drawing, rim, trees, place):
    """The ways from an inner place to the three roots."""
    need_trees(drawing, rim, trees)
    if place not in inner_places(drawing, rim):
        raise UnknownName(place)
    return tuple([way_in(trees, place, k) for k in range(3)])


def turnable(drawing, rim, trees):
    """The ascending tuple of the turnable rings."""
    need_trees(drawing, rim, trees)
    rings = []
    for x, y, z in rings_of_three(drawing, rim):
        rings = rings + [ring for ring in ((x, y, z), (x, z, y)) if points_round(trees, ring)]
    return tuple(sorted(rings))


def turned_ring(drawing, rim, trees, ring):
    """The three trees behind the turn of a turnable ring."""
    if ring not in turnable(drawing, rim, trees):
        raise InvalidTrees("the ring is not turnable")
    return trees_of(drawing, rim, turned_pointing(_pointing_in(trees), ring))


def least_trees(drawing, rim):
    """The three trees without a turnable ring that runs counterclockwise."""
    need_outer(drawing, rim)
    pointing = any_pointing(drawing, rim)
    for ring in _way_down(drawing, rim, pointing):
        pointing = turned_pointing(pointing, ring)
    return trees_of(drawing, rim, pointing)


def way_to_least(drawing, rim, trees):
    """Any tuple of rings that leads to the least three trees, if each one is turned behind the one before."""
    need_trees(drawing, rim, trees)
    return tuple(_way_down(drawing, rim, _pointing_in(trees)))


def write_trees(trees):
    """The text of three trees."""
    if not isinstance(trees, dict):
        raise InvalidTrees("no dict")
    for place in trees:
        if not isinstance(trees[place], tuple) or not _is_row((place,) + trees[place]):
            raise InvalidTrees("no dict from names to triples of three other names")
    return "\n".join([" ".join([place, *trees[place]]) for place in sorted(trees)])


def read_trees(text):
    """The three trees with a text."""
    if not isinstance(text, str):
        raise ParseError(None)
    trees = {}
    before = ""
    lines = text.split("\n") if text else []
    for index, line in enumerate(lines):
        words = tuple(line.split(" "))
        if not _is_row(words) or not before < words[0]:
            raise ParseError(index)
        before = words[0]
        trees[before] = words[1:]
    return trees


def need_outer(drawing, rim):
    """Refuses what is no drawing, a drawing that is not triangulated, then what is no rim of it."""
    need_drawings(drawing)
    if not drawing.is_triangulated:
        raise InvalidOperation("the drawing is not triangulated")
    if rim not in drawing.rims:
        raise InvalidRim("no rim of the drawing")


def need_trees(drawing, rim, trees):
    """Refuses what `need_outer` refuses, then what are no three trees for the rim."""
    if not is_three_trees(drawing, rim, trees):
        raise InvalidTrees("no three trees for this rim")


def way_in(trees, place, k):
    """The way from an inner place to a root along one of three trees."""
    way = (place,)
    while way[-1] in trees:
        way = way + (trees[way[-1]][k],)
    return way


def _is_row(words):
    """Whether these words are a place and the three places at which it points."""
    return len(words) == 4 and are_different(words, 4)


def _pointing_in(trees):
    """The pointing of three trees, with ascending keys."""
    return {place: tuple(sorted(trees[place])) for place in sorted(trees)}


def _ways_along(pointing, a, b):
    """In how many directions a tie is pointed along."""
    return len([one for one in pointing.get(a, ()) if one == b] + [one for one in pointing.get(b, ()) if one == a])


def _is_in_order(drawing, rim, trees, place):
    """Whether a place points at three neighbours, and the others point at it, in the right order.

    Six spots follow one another in a round: the place points in tree 0, is pointed at in tree 2,
    points in tree 1, is pointed at in tree 0, points in tree 2, is pointed at in tree 1.
    """
    ways = trees[place]
    near = drawing.round_at(place)
    if not all([one in near for one in ways]):
        return False
    spots = []
    for one in turned_to(near, ways[0]):
        back = trees.get(one, ())
        if (one in ways) == (place in back):
            return False
        # A root is pointed at in its own tree only.
        if one in rim and ways.index(one) != rim.index(one):
            return False
        spots.append(2 * ways.index(one) if one in ways else (2 * back.index(place) + 3) % 6)
    return spots == sorted(spots)


def _way_down(drawing, rim, pointing):
    """The rings that lead to the least three trees, if each one is turned behind the one before."""
    rings = rings_of_three(drawing, rim)
    way = []
    now = pointing
    found = [ring for ring in rings if points_round(now, ring)]
    while found:
        way.append(found[0])
        now = turned_pointing(now, found[0])
        found = [ring for ring in rings if points_round(now, ring)]
    return way
