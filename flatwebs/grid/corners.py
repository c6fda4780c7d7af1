"""Corners: whole numbers for all places, at which straight ties show a triangulated drawing."""

from flatwebs.base.drawings import Drawing
from flatwebs.base.webs import need_hanging, need_web
from flatwebs.base.words import has_keys, is_integer
from flatwebs.errors import InvalidCorners
from flatwebs.grid.straight import are_clear, table_shown
from flatwebs.grid.trees import need_trees, ways_of
from flatwebs.rims.duals import ring_sides


def corners(drawing, rim, trees):
    """The dict from all places to their corners."""
    need_trees(drawing, rim, trees)
    many = len(drawing.rims) - 1
    roots = {rim[0]: (many, 0), rim[1]: (0, many), rim[2]: (0, 0)}
    found = {}
    for place in drawing.web.places:
        if place in roots:
            found[place] = roots[place]
        else:
            ways = ways_of(drawing, rim, trees, place)
            found[place] = (_region(drawing, ways[1], ways[2]), _region(drawing, ways[2], ways[0]))
    return found


def is_grid(web, value):
    """Whether the value is a grid of the web, its keys in any order."""
    need_web(web)
    if not has_keys(value, web.places) or not all([_is_spot(value[place]) for place in web.places]):
        return False
    return are_clear(web, value, web.places)


def drawing_by_grid(web, grid):
    """The drawing of a grid."""
    if not is_grid(web, grid):
        raise InvalidCorners("no grid of the web")
    need_hanging(web)
    return Drawing(web, table_shown(web, grid))


def _is_spot(value):
    """Whether the value is a pair of integers."""
    return isinstance(value, tuple) and len(value) == 2 and is_integer(value[0]) and is_integer(value[1])


def _region(drawing, one, other):
    """The number of the rims between two ways of a place and the tie of their roots.

    From the first root to the second one the outer rim is walked, so it lies on the other side.
    """
    return len(ring_sides(drawing, one + other[:0:-1])[1])
