"""The parts into which a block falls, and the doors between them."""

from flatwebs.base.marks import full_mark, lot_marks, mark_of, marked, near_marks
from flatwebs.tree.partings import parting_pairs


def parts_of_block(web):
    """The parts of a block, ascending by their places, and its doors, ascending."""
    cuts = _door_cuts(web)
    pieces = [full_mark(len(web.places))]
    for pair, lots in cuts:
        mark = mark_of(web.places, pair)
        pieces = [piece & (lot | mark) for piece in pieces for lot in lots if piece & lot]
    pairs = [pair for pair, _ in cuts]
    parts = [_part_of(web, pairs, marked(web.places, piece)) for piece in pieces]
    for pair, lots in cuts:
        ties = tuple([tie for tie in web.ties if tie == pair])
        if len(lots) + len(ties) > 2:
            parts.append(("bundle", pair, ties))
    parts = sorted(parts, key=lambda part: part[1])
    doors = [door for pair in pairs for door in _doors_at(parts, pair)]
    return (tuple(parts), tuple(doors))


def _door_cuts(web):
    """The pairs of the doors, each one with the marks of the lots of the web without it.

    A pair that parts the block is that of a door if no other such pair has its places on
    two of its sides; else both are places of one ring.
    """
    near = near_marks(web.places, web.ties)
    cuts = []
    for pair in parting_pairs(web):
        mark = mark_of(web.places, pair)
        cuts.append((mark, pair, lot_marks(near, full_mark(len(near)) & ~mark)))
    marks = [mark for mark, _, _ in cuts]
    return [(pair, lots) for _, pair, lots in cuts if not any([_is_torn(other, lots) for other in marks])]


def _is_torn(mark, lots):
    """Whether the two places of a mark are in two of these lots."""
    return len([lot for lot in lots if mark & lot]) == 2


def _part_of(web, pairs, places):
    """The ring or the held part with these places, of which the doors have these pairs."""
    ties = [tie for tie in web.ties if tie[0] in places and tie[1] in places and tie not in pairs]
    doors = [pair for pair in pairs if pair[0] in places and pair[1] in places]
    kind = "ring" if len(ties) + len(doors) == len(places) else "held"
    return (kind, places, tuple(ties))


def _doors_at(parts, pair):
    """The doors with a pair: from its bundle to all others there, or else between two parts."""
    found = [k for k, part in enumerate(parts) if pair[0] in part[1] and pair[1] in part[1]]
    bundles = [k for k in found if parts[k][0] == "bundle"]
    middle = bundles[0] if bundles else found[0]
    return [(pair, min(k, middle), max(k, middle)) for k in found if k != middle]
