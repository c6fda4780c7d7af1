"""Rings and routes of a web."""

from flatwebs.base.marks import bits_of, full_mark, grown_mark, near_marks
from flatwebs.base.webs import Web, need_web, ties_along, ties_round
from flatwebs.base.words import are_different
from flatwebs.errors import InvalidRoute, TooMany

MAX_RINGS = 20000


def is_route(web, value):
    """Whether the value is a route of the web."""
    need_web(web)
    return are_different(value, 2) and all([tie in web.ties for tie in ties_along(value)])


def is_ring(web, value):
    """Whether the value is a ring of the web, plain or not."""
    need_web(web)
    return are_different(value, 3) and all([tie in web.ties for tie in ties_round(value)])


def plain_ring(ring):
    """The plain ring with the places and ties of a ring."""
    _need_ring(ring)
    forth = from_least(ring)
    back = from_least(ring[::-1])
    return forth if forth < back else back


def is_plain(value):
    """Whether the value is a ring in its plain form."""
    return are_different(value, 3) and value == plain_ring(value)


def ring_ties(ring):
    """The ascending tuple of the ties of a ring."""
    _need_ring(ring)
    return tuple(sorted(ties_round(ring)))


def route_ties(route):
    """The ascending tuple of the ties of a route."""
    if not are_different(route, 2):
        raise InvalidRoute("no tuple of two or more different names")
    return tuple(sorted(ties_along(route)))


def each_ring(web):
    """All plain rings of the web, ascending."""
    need_web(web)
    near = near_marks(web.places, web.ties)
    for first in range(len(near)):
        above = full_mark(len(near)) & ~full_mark(first + 1)
        for second in bits_of(near[first] & above):
            way = (first, second)
            free = above & ~(1 << second)
            # A ring is plain if it closes with a greater place than its second one.
            ends = near[first] & ~full_mark(second + 1)
            for ring in _each_closed(near, way, free, ends):
                yield tuple([web.places[k] for k in ring])


def count_rings(web):
    """The number of plain rings of the web."""
    many = 0
    for _ in each_ring(web):
        many += 1
        if many > MAX_RINGS:
            raise TooMany(MAX_RINGS)
    return many


def joins(web, corners, pairs, routes):
    """Whether routes join these pairs of corners in turn, and meet at most at their ends."""
    if not isinstance(routes, tuple) or not all([is_route(web, route) for route in routes]):
        return False
    if [(route[0], route[-1]) for route in routes] != pairs:
        return False
    inner = [place for route in routes for place in route[1:-1]]
    return len(set(inner)) == len(inner) and not any([place in corners for place in inner])


def is_one_ring(web):
    """Whether the ties of a web are just those of one ring through all its places."""
    return web.hangs and all([len(web.neighbours(place)) == 2 for place in web.places])


def ring_of_ties(ties):
    """The plain ring with these ties."""
    web = Web.of_ties(*ties)
    first = web.places[0]
    return way_on(web, first, web.neighbours(first)[0], (first,))[:-1]


def way_on(web, place, step, joints):
    """The route from a joint over a neighbour, up to the next joint; all others have two neighbours."""
    way = (place, step)
    while way[-1] not in joints:
        way = way + tuple([one for one in web.neighbours(way[-1]) if one != way[-2]])
    return way


def turned_to(row, first):
    """The rotation of a tuple that begins with one of its members."""
    at = row.index(first)
    return row[at:] + row[:at]


def from_least(row):
    """The least one of the rotations of a tuple."""
    least = min(row, default=None)
    if row.count(least) == 1:
        return turned_to(row, least)
    return min([row[k:] + row[:k] for k in range(len(row))], default=())


def _need_ring(ring):
    """Refuses what is no tuple of three or more different names."""
    if not are_different(ring, 3):
        raise InvalidRoute("no tuple of three or more different names")


def _each_closed(near, way, free, ends):
    """The ways that go on from this one by free places and stop at one of the ends, ascending.

    A step is taken only where an end can still be reached, so no long search finds nothing.
    """
    if ends >> way[-1] & 1:
        yield way
    for step in bits_of(near[way[-1]] & free):
        if grown_mark(near, free, 1 << step) & ends:
            longer = way + (step,)
            left = free & ~(1 << step)
            yield from _each_closed(near, longer, left, ends)
