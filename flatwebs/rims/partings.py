"""Rims and partings: what parts a drawn block, told by its rims."""

from flatwebs.base.drawings import need_block_drawn
from flatwebs.base.marks import full_mark, lot_marks, mark_of, marked, near_marks
from flatwebs.base.rings import turned_to
from flatwebs.base.webs import all_pairs, is_row_of, need_places, ties_round
from flatwebs.errors import InvalidNoose, InvalidOperation, InvalidRim

MAX_NOOSE = 4


def rims_with(drawing, *places):
    """The ascending tuple of the rims that have all these places."""
    need_block_drawn(drawing)
    need_places(drawing.web, *places)
    return _rims_having(drawing, places)


def are_parting(drawing, a, b):
    """Whether two different places part the block, told by the rims alone."""
    need_block_drawn(drawing)
    need_places(drawing.web, a, b)
    if a == b:
        raise InvalidOperation("the two places are equal")
    return _do_part(drawing, a, b)


def pairs_by_rims(drawing):
    """The ascending tuple of the pairs that part the block."""
    need_block_drawn(drawing)
    return tuple([(a, b) for a, b in all_pairs(drawing.web.places) if _do_part(drawing, a, b)])


def meeting(drawing, one, other):
    """What two rims have in common."""
    need_block_drawn(drawing)
    for rim in (one, other):
        if rim not in drawing.rims:
            raise InvalidRim("no rim of the drawing")
    if one == other:
        raise InvalidOperation("the two rims are equal")
    return _common_of(one, other)


def loose_meeting(drawing):
    """Any pair of rims, ascending, that have several places in common but those of a tie; or None."""
    need_block_drawn(drawing)
    for one, other in all_pairs(drawing.rims):
        if _common_of(one, other)[0] == "places":
            return (one, other)
    return None


def is_noose(drawing, value):
    """Whether the value is a noose."""
    need_block_drawn(drawing)
    if not isinstance(value, tuple) or len(value) != 2:
        return False
    places, rims = value
    if not _are_unlike(places, drawing.web.places) or not _are_unlike(rims, drawing.rims):
        return False
    if len(places) != len(rims) or len(places) < 2:
        return False
    return all([places[k - 1] in rims[k - 1] and place in rims[k - 1] for k, place in enumerate(places)])


def sides_of(drawing, noose):
    """The places of the first and of the second side of a noose."""
    if not is_noose(drawing, noose):
        raise InvalidNoose("no noose of the drawing")
    return _noose_sides(drawing, noose)


def noose_through(drawing, places):
    """Any noose with just these places whose sides both have places, None if there is none."""
    need_block_drawn(drawing)
    web = drawing.web
    if not isinstance(places, tuple) or not 2 <= len(places) <= MAX_NOOSE:
        raise InvalidOperation("no tuple of two to four places")
    if not is_row_of(web, places, len(places)):
        raise InvalidOperation("no ascending tuple of places")
    # Which places are on which side is told by the lots without the noose, so none parts nothing.
    near = near_marks(web.places, web.ties)
    rest = full_mark(len(near)) & ~mark_of(web.places, places)
    if len(lot_marks(near, rest)) < 2:
        return None
    for order in _each_order_of(places):
        for rims in _rims_through(drawing, order):
            first, second = _noose_sides(drawing, (order, rims))
            if first and second:
                return (order, rims)
    return None


def parting_noose(drawing):
    """Any noose of two places whose sides both have places, None if there is none."""
    for pair in pairs_by_rims(drawing):
        noose = noose_through(drawing, pair)
        if noose is not None:
            return noose
    return None


def _rims_having(drawing, places):
    """The rims that have all these places."""
    return tuple([rim for rim in drawing.rims if all([place in rim for place in places])])


def _do_part(drawing, a, b):
    """Whether two places part the block: two rims with both do, a tie of them asks for one more."""
    least = 3 if drawing.web.is_tied(a, b) else 2
    return len(_rims_having(drawing, (a, b))) >= least


def _common_of(one, other):
    """What two different rims have in common."""
    places = tuple(sorted([place for place in one if place in other]))
    if len(places) < 2:
        return ("place", places[0]) if places else ("nothing",)
    if len(places) == 2 and places in ties_round(one) and places in ties_round(other):
        return ("tie",) + places
    return ("places",) + places


def _are_unlike(value, known):
    """Whether the value is a tuple of different members of another tuple."""
    if not isinstance(value, tuple) or len(value) > len(known) or not all([one in known for one in value]):
        return False
    return all([one not in value[:k] for k, one in enumerate(value)])


def _noose_sides(drawing, noose):
    """The places of both sides of a noose.

    Every neighbour of its places that is not of the noose is told to be on one side; the rest
    of each lot of the other places follows it.
    """
    web = drawing.web
    places, rims = noose
    first = []
    second = []
    for k, place in enumerate(places):
        near = drawing.round_at(place)
        before, behind = _gap_at(rims[k - 1], place)
        row = turned_to(near, behind)
        # The rim that goes out comes from the last neighbour of the first side.
        at = row.index(_gap_at(rims[k], place)[0]) + 1
        first = first + list(row[:at])
        second = second + list(row[at:])
    return (_reached(web, places, first), _reached(web, places, second))


def _gap_at(rim, place):
    """The place from which a rim comes to a place, and the one to which it goes on."""
    at = rim.index(place)
    return (rim[at - 1], rim[(at + 1) % len(rim)])


def _reached(web, places, some):
    """The places that are reached from some by ties without the places of a noose."""
    near = near_marks(web.places, web.ties)
    rest = full_mark(len(near)) & ~mark_of(web.places, places)
    start = mark_of(web.places, some)
    lots = [lot for lot in lot_marks(near, rest) if lot & start]
    return marked(web.places, sum(lots))


def _each_order_of(places):
    """All orders of some places that begin with the first one."""
    if len(places) < 3:
        yield places
        return
    last = places[-1]
    fewer = places[:-1]
    for order in _each_order_of(fewer):
        for k in range(1, len(places)):
            yield order[:k] + (last,) + order[k:]


def _rims_through(drawing, order):
    """All tuples of different rims that make a noose with places in this order."""
    ways = [()]
    for k, place in enumerate(order):
        rims = _rims_having(drawing, (place, order[(k + 1) % len(order)]))
        ways = [way + (rim,) for way in ways for rim in rims if rim not in way]
    return ways
