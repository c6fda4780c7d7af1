"""Outer webs: blocks with a ring through all places that no two ties cross."""

from math import factorial

from flatwebs.base.drawings import Drawing, steps_of
from flatwebs.base.rings import from_least, is_plain, joins, plain_ring, ring_ties, way_on
from flatwebs.base.webs import (
    MAX_PLACES, all_pairs, gathered_web, is_row_of, is_tie, need_block, need_web, pair_of, ties_round, web_on)
from flatwebs.base.words import are_different, has_keys, is_ascending, is_count
from flatwebs.errors import InvalidColours, InvalidDrawing, InvalidOperation, InvalidRoute, InvalidTie
from flatwebs.outer.choices import any_choice
from flatwebs.outer.fillings import each_filling
from flatwebs.tree.partings import all_blocks

MAX_LIST = 5


def do_cross(ring, one, other):
    """Whether two ties cross over a ring."""
    if not are_different(ring, 3):
        raise InvalidRoute("no tuple of three or more different names")
    for tie in (one, other):
        if not is_tie(tie) or tie[0] not in ring or tie[1] not in ring:
            raise InvalidTie("no ascending pair of places of the ring")
    return _is_crossing(ring, one, other)


def outer_ring(web):
    """The outer ring of a block, None if there is none."""
    need_block(web)
    ring = _ring_by_ears(web)
    return plain_ring(ring) if ring else None


def is_outer_ring(web, value):
    """Whether the value is the outer ring of a block."""
    ring = outer_ring(web)
    return ring is not None and value == ring


def reason_against(web):
    """Any reason why the web is not outer, None if there is none."""
    if is_outer_web(web):
        return None
    bare = web
    for a, b in web.ties:
        fewer = bare.without_tie(a, b)
        if not is_outer_web(fewer):
            bare = fewer
    # What is left has no tie too many, so it is just the routes of a reason. Routes between
    # four are single ties then: with a place within one of them there were fewer, between two.
    joints = tuple([place for place in bare.places if len(bare.neighbours(place)) > 2])
    return ("four", joints, bare.ties) if len(joints) == 4 else _reason_of_two(bare, joints)


def is_reason(web, value):
    """Whether the value is a reason why the web is not outer."""
    need_web(web)
    if not isinstance(value, tuple) or len(value) != 3:
        return False
    kind, places, routes = value
    if kind == "four":
        return is_row_of(web, places, 4) and joins(web, places, all_pairs(places), routes)
    if kind != "two" or not isinstance(places, tuple) or len(places) != 2:
        return False
    pair, three = places
    if not is_row_of(web, pair, 2) or not is_row_of(web, three, 3):
        return False
    pairs = [(a, b) for a in pair for b in three]
    return joins(web, pair + three, pairs, routes)


def is_outer_web(web):
    """Whether each block of at least three places of the web is outer."""
    blocks = [block for block in all_blocks(web) if len(block) > 2]
    return all([outer_ring(web_on(web, block)) is not None for block in blocks])


def drawing_by_ring(web, ring):
    """The drawing of a block that has its outer ring as a rim, walked as it is told."""
    need_block(web)
    if plain_ring(ring) != outer_ring(web):
        raise InvalidRoute("no outer ring of the web")
    table = {}
    for k, place in enumerate(ring):
        # Round a place, the others follow one another as they do on the ring behind it.
        row = ring[k:] + ring[:k]
        near = web.neighbours(place)
        table[place] = from_least(tuple([one for one in row if one in near]))
    return Drawing(web, table)


def outer_drawings(web):
    """The tuple of all outer drawings of a block, ascending by their lines."""
    ring = outer_ring(web)
    if ring is None:
        return ()
    one = drawing_by_ring(web, ring)
    other = one.mirror
    if one == other:
        return (one,)
    return (one, other) if one.lines < other.lines else (other, one)


def is_outer_drawing(value):
    """Whether the value is a drawing of a block one of whose rims has all places."""
    if not isinstance(value, Drawing) or not value.web.is_block:
        return False
    return any([len(rim) == len(value.web.places) for rim in value.rims])


def inner_tree(drawing):
    """The inner rims of an outer drawing, and their links."""
    if not is_outer_drawing(drawing):
        raise InvalidDrawing("no outer drawing of a block")
    many = len(drawing.web.places)
    inner = [rim for rim in drawing.rims if len(rim) < many]
    if not inner:
        raise InvalidOperation("the web is a ring")
    ties = [ties_round(rim) for rim in inner]
    places = list(range(len(inner)))
    links = [(i, j) for i, j in all_pairs(places) if any([tie in ties[j] for tie in ties[i]])]
    return (tuple(inner), tuple(links))


def is_full(web):
    """Whether a block is outer, and no more ties can be put in."""
    return outer_ring(web) is not None and len(web.ties) == _full_ties(web)


def filled_web(web):
    """Any full outer block with the same outer ring that has all ties of the web."""
    ring = outer_ring(web)
    if ring is None:
        raise InvalidOperation("the web is not outer")
    ties = list(web.ties)
    for pair in all_pairs(web.places):
        if not any([_is_crossing(ring, pair, tie) for tie in ties]):
            ties.append(pair)
    return gathered_web(web.places, ties)


def count_full(ring):
    """The number of the full outer blocks with an outer ring."""
    _need_plain(ring)
    many = len(ring)
    return factorial(2 * many - 4) // (factorial(many - 1) * factorial(many - 2))


def each_full(ring):
    """The full outer blocks with an outer ring, ascending by their ties."""
    _need_plain(ring)
    order = tuple(sorted(ring))
    pieces = (ring,)
    for ties in each_filling(order, pieces):
        yield gathered_web(ring, ring_ties(ring) + ties)


def is_outer_choice(web, lists, value):
    """Whether the value gives each place a number of its list, unlike for neighbours."""
    _need_lists(web, lists)
    if not has_keys(value, web.places):
        return False
    if not all([is_count(value[place]) and value[place] in lists[place] for place in web.places]):
        return False
    return all([value[a] != value[b] for a, b in web.ties])


def outer_choice(web, lists):
    """Any numbers of these lists, unlike for neighbours; None if there are none."""
    _need_lists(web, lists)
    return any_choice(web, lists)


def _need_plain(ring):
    """Refuses what is no plain ring of three to twelve names."""
    if not is_plain(ring) or len(ring) > MAX_PLACES:
        raise InvalidRoute("no plain ring of three to twelve names")


def _need_lists(web, lists):
    """Refuses what is no web, then what are no lists of it."""
    need_web(web)
    if not has_keys(lists, web.places) or not all([_is_list(lists[place]) for place in lists]):
        raise InvalidColours("no lists of the web")


def _is_list(value):
    """Whether the value is an ascending tuple of at most five integers of at least 0."""
    if not isinstance(value, tuple) or len(value) > MAX_LIST:
        return False
    return all([is_count(number) for number in value]) and is_ascending(value)


def _full_ties(web):
    """The number of ties of a full outer block with as many places."""
    return 2 * len(web.places) - 3


def _is_crossing(ring, one, other):
    """Whether two ties between places of a ring cross over it."""
    low, high = sorted([ring.index(one[0]), ring.index(one[1])])
    spots = [ring.index(other[0]), ring.index(other[1])]
    inside = [at for at in spots if low < at < high]
    beyond = [at for at in spots if at < low or at > high]
    return len(inside) == 1 and len(beyond) == 1


def _ring_by_ears(web):
    """The outer ring of a block, told from any place on; () if there is none.

    A place with two neighbours lies between them on it, and each outer block has such a
    place. So the ring is that of the block in which a tie takes its place, with this place
    put in again where this tie is on the ring.
    """
    if len(web.places) == 3:
        return web.places
    ears = [place for place in web.places if len(web.neighbours(place)) == 2]
    if not ears:
        return ()
    near = web.neighbours(ears[0])
    rest = web.without_places((ears[0],))
    if near not in rest.ties:
        rest = rest.with_tie(near[0], near[1])
    ring = _ring_by_ears(rest)
    spots = [k for k, (a, b) in enumerate(steps_of(ring)) if pair_of(a, b) == near]
    return ring[:spots[0] + 1] + (ears[0],) + ring[spots[0] + 1:] if spots else ()


def _reason_of_two(web, pair):
    """The reason of a web that is just three routes between two joints."""
    ways = [way_on(web, pair[0], step, pair) for step in web.neighbours(pair[0])]
    three = tuple([way[1] for way in ways])
    routes = [way[:2] for way in ways] + [way[:0:-1] for way in ways]
    return ("two", (pair, three), tuple(routes))
