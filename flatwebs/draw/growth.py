"""Drawings of blocks, grown piece by piece.

One ring is drawn first, a shortest one, so that no tie joins two of its places but its own ties. What
is not drawn yet falls into pieces, lots of places, each of which lies within one rim that has all
places at which it hangs. A piece with the fewest such rims comes next: a part of it that can be drawn
in just one way is drawn within one of them. If some piece has no such rim, there is no drawing at all;
else the choice does not matter. As all ties between drawn places are drawn, only lots are left.
"""

from flatwebs.base.marks import bits_of, full_mark, shortest_way
from flatwebs.base.rings import turned_to


def grown_rims(near):
    """The rims of some drawing of a block, told by the marks of neighbours; None if there is none.

    What has no neighbours is no place of the block. The first piece lies within the first ring, which
    so decides between a drawing and its mirror.
    """
    ring = _first_ring(near)
    whole = sum([1 << k for k in ring])
    rims = [(whole, ring), (whole, ring[::-1])]
    pieces = _pieces(near, sum([1 << k for k, mark in enumerate(near) if mark]) & ~whole)
    while pieces:
        piece, fits = _next_piece(pieces, rims)
        if not fits:
            return None
        pieces.remove(piece)
        rims.remove(fits[0])
        ends, lot = piece
        legs, inner = _next_way(near, ends, lot)
        for rim in _split_rim(fits[0][1], legs, inner):
            rims.append((sum([1 << k for k in rim]), rim))
        pieces = pieces + _pieces(near, lot & ~sum([1 << k for k in inner]))
    return [rim for _, rim in rims]


def rounds_by(rims):
    """The dict from all indices to the rounds that rims tell, each one from any neighbour on."""
    behind = {}
    for rim in rims:
        before = rim[-2]
        here = rim[-1]
        for step in rim:
            steps = behind.setdefault(here, {})
            steps[before] = step
            before = here
            here = step
    return {here: _told_round(behind[here]) for here in behind}


def _told_round(steps):
    """The round in which each neighbour has this one behind it."""
    first = min(list(steps))
    near = [first]
    while steps[near[-1]] != first:
        near.append(steps[near[-1]])
    return tuple(near)


def _first_ring(near):
    """A shortest ring through the first place with neighbours and its first neighbour."""
    first = [k for k, mark in enumerate(near) if mark][0]
    step = near[first] & -near[first]
    rest = full_mark(len(near)) & ~step & ~(1 << first)
    return (first,) + shortest_way(near, step, rest, near[first] & ~step)


def _pieces(near, within):
    """The lots of the places within a mark that are not drawn, each one behind the mark of its ends."""
    pieces = []
    rest = within
    while rest:
        lot = fresh = rest & -rest
        around = 0
        while fresh:
            low = fresh & -fresh
            beside = near[low.bit_length() - 1]
            around = around | beside
            more = beside & within & ~lot
            lot = lot | more
            fresh = (fresh ^ low) | more
        pieces.append((around & ~lot, lot))
        rest = rest & ~lot
    return pieces


def _next_piece(pieces, rims):
    """A piece that fits into the fewest rims, and these rims."""
    best = None
    for piece in pieces:
        ends = piece[0]
        fits = [rim for rim in rims if ends & rim[0] == ends]
        if best is None or len(fits) < len(best[1]):
            best = (piece, fits)
    return best


def _next_way(near, ends, lot):
    """What of a piece is drawn next: the ends to which it leads, and the new places between them.

    That is one place with several ends beside it, if there is one; else a shortest way between two ends.
    """
    for k in bits_of(lot):
        legs = near[k] & ends
        if legs & (legs - 1):
            return (legs, (k,))
    start = ends & -ends
    first = near[start.bit_length() - 1] & lot
    way = shortest_way(near, first, lot | ends & ~start, ends & ~start)
    return (start | (1 << way[-1]), way[:-1])


def _split_rim(rim, legs, inner):
    """The rims into which new places, told from the first leg on, part a rim."""
    first = (legs & -legs).bit_length() - 1
    row = turned_to(rim, first) + (first,)
    spots = [k for k, place in enumerate(row) if legs >> place & 1]
    ways = [row[one:other + 1] for one, other in zip(spots, spots[1:])]
    return [ways[0] + inner[::-1]] + [way + inner for way in ways[1:]]
