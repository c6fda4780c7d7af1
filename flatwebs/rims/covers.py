"""Covers: rings by which each tie of a block is held twice, the rims without directions."""

from flatwebs.base.drawings import Drawing, need_block_drawn, steps_of
from flatwebs.base.marks import linked_lots
from flatwebs.base.rings import is_plain, is_ring, plain_ring, ring_ties
from flatwebs.base.webs import need_block, need_places, ties_round
from flatwebs.draw.bars import drawing_of
from flatwebs.errors import InvalidCover, InvalidRoute


def is_cover(web, value):
    """Whether the value is a cover of the web."""
    return is_double(web, value) and _is_whole_cover(web, value)


def cover_of(web):
    """Any cover of the web, None if there is none."""
    need_block(web)
    drawing = drawing_of(web)
    return None if drawing is None else cover_by(drawing)


def cover_by(drawing):
    """The cover of a drawing."""
    need_block_drawn(drawing)
    return tuple(sorted([plain_ring(rim) for rim in drawing.rims]))


def drawings_by(web, cover):
    """The tuple of the drawings whose cover this is, ascending by their lines."""
    _need_cover(web, cover)
    rims = _directed(cover)
    one = Drawing.from_rims(*rims)
    other = one.mirror
    if one == other:
        return (one,)
    return (one, other) if one.lines < other.lines else (other, one)


def is_double(web, value):
    """Whether the value is a tuple of plain rings, ascending or equal, that hold each tie twice."""
    need_block(web)
    if not _are_rings(web, value) or list(value) != sorted(value):
        return False
    holders = _holders_of(value)
    return all([len(holders.get(tie, ())) == 2 for tie in web.ties])


def lots_of_rings(web, rings):
    """The ascending tuple of the lots of rings, each one told by indices."""
    _need_double(web, rings)
    return tuple(_lots_by(rings, web.ties))


def rounds_at(web, rings, place):
    """The number of the rounds to which the rings through a place are joined."""
    _need_double(web, rings)
    need_places(web, place)
    lots = _lots_by(rings, [tie for tie in web.ties if place in tie])
    return len([lot for lot in lots if place in rings[lot[0]]])


def sum_of_rings(web, rings):
    """The ascending tuple of the ties that an odd number of rings hold."""
    need_block(web)
    if not _are_rings(web, rings):
        raise InvalidCover("no tuple of plain rings of the web")
    holders = _holders_of(rings)
    return tuple(sorted([tie for tie in holders if len(holders[tie]) % 2 == 1]))


def sides_of_ring(web, cover, ring):
    """The two sides of a ring, told by indices of the cover, that with the index 0 first."""
    _need_cover(web, cover)
    if not is_plain(ring) or not is_ring(web, ring):
        raise InvalidRoute("no plain ring of the web")
    on_ring = ring_ties(ring)
    # The rings of each side are joined by the ties that are not on the ring, and no others are.
    return tuple(_lots_by(cover, [tie for tie in web.ties if tie not in on_ring]))


def places_beside(web, cover, ring):
    """The places on both sides of a ring."""
    sides = sides_of_ring(web, cover, ring)
    return tuple([_places_in(cover, side, ring) for side in sides])


def _need_double(web, rings):
    """Refuses what is no web, what is no block, then rings that do not hold each tie twice."""
    if not is_double(web, rings):
        raise InvalidCover("no rings of the web by which each tie is held twice")


def _need_cover(web, cover):
    """Refuses what is no web, what is no block, then what is no cover of it."""
    if not is_cover(web, cover):
        raise InvalidCover("no cover of the web")


def _are_rings(web, value):
    """Whether the value is a tuple of plain rings of the web."""
    return isinstance(value, tuple) and all([is_plain(ring) and is_ring(web, ring) for ring in value])


def _is_whole_cover(web, rings):
    """Whether rings that hold each tie twice are as many as those of a cover, and one lot."""
    return len(rings) == len(web.ties) - len(web.places) + 2 and len(_lots_by(rings, web.ties)) == 1


def _holders_of(rings):
    """For each tie that some rings hold, the indices of these rings."""
    holders = {}
    for k, ring in enumerate(rings):
        for tie in ties_round(ring):
            holders[tie] = holders.get(tie, ()) + (k,)
    return holders


def _lots_by(rings, ties):
    """The lots of the indices of rings that are joined by some ties, each one held twice."""
    holders = _holders_of(rings)
    return linked_lots(len(rings), [holders[tie] for tie in ties])


def _places_in(cover, side, ring):
    """The places of the rings of a side that are not on the ring itself."""
    places = [place for k in side for place in cover[k] if place not in ring]
    return tuple(sorted(set(places)))


def _directed(cover):
    """The rings of a cover, each one walked so that each tie is walked in both directions."""
    walked = [cover[0]]
    rest = list(cover[1:])
    while rest:
        steps = [step for ring in walked for step in steps_of(ring)]
        later = []
        for ring in list(rest):
            if _meets(steps, ring):
                walked.append(ring[::-1])
            elif _meets(steps, ring[::-1]):
                walked.append(ring)
            else:
                later.append(ring)
        rest = later
    return walked


def _meets(steps, ring):
    """Whether some tie of a ring is walked in the same direction by these steps."""
    return any([step in steps for step in steps_of(ring)])
