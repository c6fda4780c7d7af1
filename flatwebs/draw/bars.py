"""Drawing or bar: a web that hangs together has one of both."""

from flatwebs.base.drawings import Drawing
from flatwebs.base.marks import near_marks
from flatwebs.base.rings import from_least, joins
from flatwebs.base.webs import (
    Web, all_pairs, are_ties_of, is_row_of, need_hanging, pair_of, ties_along, web_on)
from flatwebs.base.words import are_names, has_keys, is_ascending
from flatwebs.draw.flatness import bar_ways, flat_rounds, is_flat
from flatwebs.errors import InvalidBar


def drawing_of(web):
    """Any drawing of the web, None if there is none."""
    need_hanging(web)
    rounds = flat_rounds(near_marks(web.places, web.ties))
    if rounds is None:
        return None
    table = {}
    for place, near in zip(web.places, rounds):
        table[place] = from_least(tuple([web.places[k] for k in near]))
    return Drawing(web, table)


def has_drawing(web):
    """Whether the web has a drawing."""
    need_hanging(web)
    return is_flat(near_marks(web.places, web.ties))


def bar_of(web):
    """Any bar, None if there is none."""
    need_hanging(web)
    near = near_marks(web.places, web.ties)
    return None if is_flat(near) else _found_bar(web.places, near)


def is_bar(web, value):
    """Whether the value is a bar of the web."""
    need_hanging(web)
    if not isinstance(value, tuple) or len(value) != 3:
        return False
    kind, places, routes = value
    if kind == "five":
        return is_row_of(web, places, 5) and joins(web, places, all_pairs(places), routes)
    if kind != "three" or not _are_two(places):
        return False
    left, right = places
    if not is_row_of(web, left, 3) or not is_row_of(web, right, 3) or not left < right:
        return False
    # No route joins a place to itself, so no place is in both.
    pairs = [(a, b) for a in left for b in right]
    return joins(web, left + right, pairs, routes)


def bar_ties(web, bar):
    """The ascending tuple of the ties on the routes of a bar."""
    if not is_bar(web, bar):
        raise InvalidBar("no bar of the web")
    return _ties_of(bar)


def is_tight(web):
    """Whether the web has no drawing, but each lot of it without any one of its ties has one."""
    bar = bar_of(web)
    return bar is not None and _ties_of(bar) == web.ties


def keeping_paper(web):
    """Any keeping paper: ties that can be kept, and for each other one a bar."""
    need_hanging(web)
    kept = ()
    bars = {}
    for tie in web.ties:
        near = near_marks(web.places, kept + (tie,))
        if is_flat(near):
            kept = kept + (tie,)
        else:
            bars[tie] = _found_bar(web.places, near)
    return (kept, bars)


def is_keeping_paper(web, value):
    """Whether the value is a keeping paper."""
    need_hanging(web)
    if not _are_two(value) or not are_ties_of(web, value[0]):
        return False
    kept, bars = value
    flat = Web(web.places, kept)
    others = [tie for tie in web.ties if tie not in kept]
    if not flat.hangs or not has_drawing(flat) or not has_keys(bars, others):
        return False
    return all([is_bar(flat.with_tie(tie[0], tie[1]), bars[tie]) for tie in others])


def minor_bar(web):
    """Any minor bar, None if there is none."""
    bar = bar_of(web)
    if bar is None:
        return None
    kind, places, routes = bar
    # What lies within a route goes to the place at which it begins.
    if kind == "five":
        return ("five", tuple(sorted([_lot_at(place, routes) for place in places])))
    # The left places have the least one of all, so their lots are the lesser ones, too.
    left = tuple(sorted([_lot_at(place, routes) for place in places[0]]))
    right = tuple([(place,) for place in places[1]])
    return ("three", (left, right))


def is_minor_bar(web, value):
    """Whether the value is a minor bar."""
    need_hanging(web)
    if not _are_two(value):
        return False
    kind, lots = value
    if kind == "five":
        return _are_lots(web, lots, 5) and _are_linked(web, lots, all_pairs(lots))
    if kind != "three" or not _are_two(lots):
        return False
    left, right = lots
    if not _are_lots(web, left, 3) or not _are_lots(web, right, 3) or not left < right:
        return False
    return _are_linked(web, left + right, [(one, other) for one in left for other in right])


def _are_two(value):
    """Whether the value is a pair."""
    return isinstance(value, tuple) and len(value) == 2


def _ties_of(bar):
    """The ascending tuple of the ties on the routes of a bar."""
    return tuple(sorted([tie for route in bar[2] for tie in ties_along(route)]))


def _found_bar(places, near):
    """A bar of a web without a drawing, which may fall apart, told by the marks of neighbours."""
    ways = bar_ways(near)
    joints = sorted(set([way[0] for way in ways]))
    named = {(way[0], way[-1]): tuple([places[k] for k in way]) for way in ways}
    if len(joints) == 5:
        return ("five", tuple([places[k] for k in joints]), tuple([named[pair] for pair in all_pairs(joints)]))
    right = [k for k in joints if (joints[0], k) in named]
    left = [k for k in joints if k not in right]
    triples = tuple([tuple([places[k] for k in three]) for three in (left, right)])
    return ("three", triples, tuple([named[(a, b)] for a in left for b in right]))


def _lot_at(place, routes):
    """A place, and all places within the routes that begin with it."""
    inner = [one for route in routes if route[0] == place for one in route[1:-1]]
    return tuple(sorted([place] + inner))


def _are_lots(web, value, many):
    """Whether the value is an ascending tuple of so many lots of places that hang together."""
    if not isinstance(value, tuple) or len(value) != many:
        return False
    return all([_is_lot(web, lot) for lot in value]) and is_ascending(value)


def _is_lot(web, value):
    """Whether the value is an ascending tuple of places that hang together."""
    return are_names(value) and value != () and is_row_of(web, value, len(value)) and web_on(web, value).hangs


def _are_linked(web, lots, pairs):
    """Whether no place is in two of the lots, and a tie joins the two of each of these pairs."""
    places = [place for lot in lots for place in lot]
    if len(set(places)) < len(places):
        return False
    return all([_touch(web, one, other) for one, other in pairs])


def _touch(web, one, other):
    """Whether a tie joins two lots."""
    return any([pair_of(a, b) in web.ties for a in one for b in other])
