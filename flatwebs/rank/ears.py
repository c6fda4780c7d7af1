"""Ears: a ring, and routes that are put on one after the other until the web is there."""

from flatwebs.base.drawings import steps_of
from flatwebs.base.marks import bits_of, full_mark, near_marks, shortest_way
from flatwebs.base.rings import is_plain, is_route, plain_ring, turned_to
from flatwebs.base.webs import Web, is_web_of, need_tied, need_web, ties_along, ties_round
from flatwebs.base.words import are_names
from flatwebs.errors import InvalidEars, InvalidOrder, InvalidTie
from flatwebs.rank.orders import is_tied_order


def ears_of(web):
    """Any ears of the web, None if there are none."""
    need_web(web)
    return _grown_ears(web, web.ties[0]) if web.is_block else None


def is_ears(web, value):
    """Whether the value is ears of the web."""
    need_web(web)
    if not isinstance(value, tuple) or value == () or not is_plain(value[0]):
        return False
    seen = value[0]
    for entry in value[1:]:
        if not is_route(web, entry) or not entry[0] < entry[-1]:
            return False
        ends = [entry[0], entry[-1]]
        if [place for place in entry if place in seen] != ends:
            return False
        seen = seen + entry[1:-1]
    return sorted(seen) == list(web.places) and sorted(_ties_on(value)) == list(web.ties)


def ears_with(web, a, b):
    """Any ears with the tie of two places on the first entry, None if there are no ears."""
    need_web(web)
    need_tied(web, a, b)
    return _grown_ears(web, (a, b)) if web.is_block else None


def web_of_ears(ears):
    """The web with the places and ties on all entries."""
    if not isinstance(ears, tuple) or ears == () or not all([are_names(entry) for entry in ears]):
        raise InvalidEars("no tuple of one or more entries")
    places = tuple(sorted(set([place for entry in ears for place in entry])))
    ties = tuple(sorted(_ties_on(ears)))
    if not is_web_of(places, ties):
        raise InvalidEars("no web has the places and ties of these entries")
    web = Web(places, ties)
    if not is_ears(web, ears):
        raise InvalidEars("these are no ears")
    return web


def order_by_ears(ears, a, b):
    """Any order from a to b, whose tie is on the first entry."""
    web_of_ears(ears)
    ring = ears[0]
    if (b, a) in steps_of(ring):
        order = turned_to(ring, a)
    elif (a, b) in steps_of(ring):
        order = turned_to(ring[::-1], a)
    else:
        raise InvalidTie("the first entry does not have this tie")
    for entry in ears[1:]:
        if order.index(entry[0]) < order.index(entry[-1]):
            way = entry
        else:
            way = entry[::-1]
        # Just behind the end that comes first, all its inner places have neighbours on both sides.
        at = order.index(way[0]) + 1
        order = order[:at] + way[1:-1] + order[at:]
    return order


def ears_by_order(web, order):
    """Any ears whose first entry has the tie of the first and the last place of an order."""
    need_web(web)
    if not is_tied_order(web, order):
        raise InvalidOrder("no order of the web whose ends are tied")
    seen = (order[0], order[-1])
    ways = []
    # Who goes on to places further behind comes to the last one, if to no other one that is there.
    for place in order[1:-1]:
        if place not in seen:
            ahead = [one for one in order[:order.index(place)] if web.is_tied(one, place)]
            way = (ahead[0], place)
            while way[-1] not in seen:
                behind = [one for one in order[order.index(way[-1]):] if web.is_tied(way[-1], one)]
                way = way + (behind[0],)
            ways.append(way)
            seen = seen + way[1:-1]
    return _told_ears(web, ways[0], ways[1:])


def _ties_on(ears):
    """The ties on all entries, as often as they are there."""
    return ties_round(ears[0]) + [tie for entry in ears[1:] for tie in ties_along(entry)]


def _grown_ears(web, tie):
    """Any ears of a block with a tie on the first entry."""
    near = near_marks(web.places, web.ties)
    whole = full_mark(len(near))
    i, j = web.places.index(tie[0]), web.places.index(tie[1])
    ring = (i,) + shortest_way(near, 1 << j, whole & ~(1 << i), near[i] & ~(1 << j))
    drawn = [0 for _ in near]
    _draw_along(drawn, ring + ring[:1])
    ways = []
    while drawn != near:
        old = sum([1 << k for k, mark in enumerate(drawn) if mark])
        start = [k for k in bits_of(old) if drawn[k] != near[k]][0]
        step = bits_of(near[start] & ~drawn[start])[0]
        way = (start,) + shortest_way(near, 1 << step, whole & ~(1 << start), old)
        _draw_along(drawn, way)
        ways.append(way)
    named = [tuple([web.places[k] for k in way]) for way in ways]
    return _told_ears(web, tuple([web.places[k] for k in ring]), named)


def _draw_along(drawn, way):
    """Notes in the marks of the drawn ties that those along a way are drawn."""
    for i, j in zip(way, way[1:]):
        drawn[i] = drawn[i] | (1 << j)
        drawn[j] = drawn[j] | (1 << i)


def _told_ears(web, ring, ways):
    """The ears with a ring and routes, each one told in its form, and then all ties that are left."""
    entries = [plain_ring(ring)] + [way if way[0] < way[-1] else way[::-1] for way in ways]
    done = _ties_on(entries)
    return tuple(entries + [tie for tie in web.ties if tie not in done])
