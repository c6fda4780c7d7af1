"""Drawing or bar: a web that hangs together has one of both."""

from flatwebs.base.drawings import Drawing
from flatwebs.base.rings import from_least, joins, route_ties, way_on
from flatwebs.base.webs import (
    Web, all_pairs, are_ties_of, is_row_of, need_hanging, pair_of, web_on)
from flatwebs.base.words import are_names, has_keys, is_ascending
from flatwebs.draw.growth import grown_rims
from flatwebs.errors import InvalidBar
from flatwebs.tree.partings import all_blocks


def drawing_of(web):
    """Any drawing of the web, None if there is none."""
    need_hanging(web)
    table = {place: () for place in web.places}
    for block in all_blocks(web):
        part = web_on(web, block)
        if len(block) < 3:
            rounds = {place: part.neighbours(place) for place in block}
        else:
            rims = grown_rims(part)
            if rims is None:
                return None
            rounds = Drawing.from_rims(*rims).table
        # At a cut place the rounds of the blocks follow one another.
        for place in block:
            table[place] = table[place] + rounds[place]
    return Drawing(web, {place: from_least(table[place]) for place in table})


def has_drawing(web):
    """Whether the web has a drawing."""
    need_hanging(web)
    return _is_flat(web)


def bar_of(web):
    """Any bar, None if there is none."""
    need_hanging(web)
    return None if _is_flat(web) else _found_bar(web)


def is_bar(web, value):
    """Whether the value is a bar of the web."""
    need_hanging(web)
    if not isinstance(value, tuple) or len(value) != 3:
        return False
    kind, places, routes = value
    if kind == "five":
        return is_row_of(web, places, 5) and joins(web, places, all_pairs(places), routes)
    if kind != "three" or not _are_two(places):
        return False
    left, right = places
    if not is_row_of(web, left, 3) or not is_row_of(web, right, 3) or not left < right:
        return False
    # No route joins a place to itself, so no place is in both.
    pairs = [(a, b) for a in left for b in right]
    return joins(web, left + right, pairs, routes)


def bar_ties(web, bar):
    """The ascending tuple of the ties on the routes of a bar."""
    if not is_bar(web, bar):
        raise InvalidBar("no bar of the web")
    return tuple(sorted([tie for route in bar[2] for tie in route_ties(route)]))


def is_tight(web):
    """Whether the web has no drawing, but each lot of it without any one of its ties has one."""
    bar = bar_of(web)
    return bar is not None and bar_ties(web, bar) == web.ties


def keeping_paper(web):
    """Any keeping paper: ties that can be kept, and for each other one a bar."""
    need_hanging(web)
    kept = ()
    bars = {}
    for tie in web.ties:
        more = Web(web.places, kept + (tie,))
        if _is_flat(more):
            kept = more.ties
        else:
            bars[tie] = _found_bar(more)
    return (kept, bars)


def is_keeping_paper(web, value):
    """Whether the value is a keeping paper."""
    need_hanging(web)
    if not _are_two(value) or not are_ties_of(web, value[0]):
        return False
    kept, bars = value
    flat = Web(web.places, kept)
    others = [tie for tie in web.ties if tie not in kept]
    if not flat.hangs or not _is_flat(flat) or not has_keys(bars, others):
        return False
    return all([is_bar(flat.with_tie(tie[0], tie[1]), bars[tie]) for tie in others])


def minor_bar(web):
    """Any minor bar, None if there is none."""
    bar = bar_of(web)
    if bar is None:
        return None
    kind, places, routes = bar
    # What lies within a route goes to the place at which it begins.
    if kind == "five":
        return ("five", tuple(sorted([_lot_at(place, routes) for place in places])))
    # The left places have the least one of all, so their lots are the lesser ones, too.
    left = tuple(sorted([_lot_at(place, routes) for place in places[0]]))
    right = tuple([(place,) for place in places[1]])
    return ("three", (left, right))


def is_minor_bar(web, value):
    """Whether the value is a minor bar."""
    need_hanging(web)
    if not _are_two(value):
        return False
    kind, lots = value
    if kind == "five":
        return _are_lots(web, lots, 5) and _are_linked(web, lots, all_pairs(lots))
    if kind != "three" or not _are_two(lots):
        return False
    left, right = lots
    if not _are_lots(web, left, 3) or not _are_lots(web, right, 3) or not left < right:
        return False
    return _are_linked(web, left + right, [(one, other) for one in left for other in right])


def _are_two(value):
    """Whether the value is a pair."""
    return isinstance(value, tuple) and len(value) == 2


def _is_flat(web):
    """Whether each lot of a web has a drawing."""
    blocks = [block for block in all_blocks(web) if len(block) > 4]
    return all([grown_rims(web_on(web, block)) is not None for block in blocks])


def _found_bar(web):
    """A bar of a web that has no drawing, which may fall apart."""
    bare = web
    for place in web.places:
        fewer = bare.without_places((place,))
        if not _is_flat(fewer):
            bare = fewer
    for a, b in bare.ties:
        fewer = bare.without_tie(a, b)
        if not _is_flat(fewer):
            bare = fewer
    # What is left has no tie too many, so it is just the routes of a bar.
    joints = tuple([place for place in bare.places if len(bare.neighbours(place)) > 2])
    ways = {}
    for place in joints:
        for step in bare.neighbours(place):
            way = way_on(bare, place, step, joints)
            ways[(place, way[-1])] = way
    if len(joints) == 5:
        return ("five", joints, tuple([ways[pair] for pair in all_pairs(joints)]))
    right = tuple([place for place in joints if (joints[0], place) in ways])
    left = tuple([place for place in joints if place not in right])
    return ("three", (left, right), tuple([ways[(a, b)] for a in left for b in right]))


def _lot_at(place, routes):
    """A place, and all places within the routes that begin with it."""
    inner = [one for route in routes if route[0] == place for one in route[1:-1]]
    return tuple(sorted([place] + inner))


def _are_lots(web, value, many):
    """Whether the value is an ascending tuple of so many lots of places that hang together."""
    if not isinstance(value, tuple) or len(value) != many:
        return False
    return all([_is_lot(web, lot) for lot in value]) and is_ascending(value)


def _is_lot(web, value):
    """Whether the value is an ascending tuple of places that hang together."""
    return are_names(value) and value != () and is_row_of(web, value, len(value)) and web_on(web, value).hangs


def _are_linked(web, lots, pairs):
    """Whether no place is in two of the lots, and a tie joins the two of each of these pairs."""
    places = [place for lot in lots for place in lot]
    if len(set(places)) < len(places):
        return False
    return all([_touch(web, one, other) for one, other in pairs])


def _touch(web, one, other):
    """Whether a tie joins two lots."""
    return any([pair_of(a, b) in web.ties for a in one for b in other])
