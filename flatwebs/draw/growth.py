"""Drawings of blocks, grown route by route.

One ring is drawn first. What is not drawn yet falls into pieces, each of which lies within
one rim that has all places at which it hangs. A piece with the fewest such rims comes next:
a route through it is drawn within one of them. If some piece has no such rim, there is no
drawing at all; else the choice does not matter.
"""

from flatwebs.base.marks import bits_of, draw_along, full_mark, lot_marks, near_marks, shortest_way
from flatwebs.base.rings import turned_to


def grown_rims(web):
    """The rims of some drawing of a block, None if there is none."""
    if len(web.ties) > 3 * len(web.places) - 6:
        return None
    near = near_marks(web.places, web.ties)
    ring = _first_ring(near)
    rims = [ring, ring[::-1]]
    drawn = [0 for _ in near]
    draw_along(drawn, ring + ring[:1])
    while drawn != near:
        piece, fits = _next_piece(near, drawn, rims)
        if not fits:
            return None
        way = _way_through(near, piece)
        rim = rims.pop(fits[0])
        rims = rims + _split_rim(rim, way)
        draw_along(drawn, way)
    return [tuple([web.places[k] for k in rim]) for rim in rims]


def _first_ring(near):
    """A shortest ring through the first place and its first neighbour."""
    step = near[0] & -near[0]
    rest = full_mark(len(near)) & ~step & ~1
    return (0,) + shortest_way(near, bits_of(step)[0], rest, near[0] & ~step)


def _next_piece(near, drawn, rims):
    """A piece that fits into the fewest rims, and the indices of these rims.

    A piece is told by the marks of the places at which it hangs and of its own places.
    """
    marks = [sum([1 << place for place in rim]) for rim in rims]
    best = None
    for piece in _pieces(near, drawn):
        ends = piece[0]
        fits = [k for k, mark in enumerate(marks) if not ends & ~mark]
        if best is None or len(fits) < len(best[1]):
            best = (piece, fits)
    return best


def _pieces(near, drawn):
    """The pieces that are not drawn yet: lots of new places, and ties between drawn ones."""
    old = sum([1 << k for k, mark in enumerate(drawn) if mark])
    pieces = []
    for lot in lot_marks(near, full_mark(len(near)) & ~old):
        ends = 0
        for place in bits_of(lot):
            ends = ends | near[place] & old
        pieces.append((ends, lot))
    for i in bits_of(old):
        for j in bits_of(near[i] & old & ~drawn[i]):
            if i < j:
                pieces.append(((1 << i) | (1 << j), 0))
    return pieces


def _way_through(near, piece):
    """A route through a piece, from one place at which it hangs to another one."""
    ends, lot = piece
    start = bits_of(ends)[0]
    goals = ends & ~(1 << start)
    if not lot:
        return (start,) + tuple(bits_of(goals))
    first = bits_of(near[start] & lot)[0]
    return (start,) + shortest_way(near, first, lot | goals, goals)


def _split_rim(rim, way):
    """The two rims into which a way within a rim parts it."""
    row = turned_to(rim, way[0])
    at = row.index(way[-1])
    inner = way[1:-1]
    return [row[:at + 1] + inner[::-1], row[at:] + way[:1] + inner]
