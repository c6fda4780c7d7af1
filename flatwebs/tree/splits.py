"""The parts into which a block falls, and the doors between them."""

from flatwebs.base.marks import full_mark, marked, near_marks
from flatwebs.tree.partings import cuts_by_pairs


class Split:
    """A block with its parts, ascending by their places, and its doors, ascending. It never changes."""

    def __init__(self, block):
        self.block = block
        self.told = _parts_and_doors(block)


def _parts_and_doors(block):
    """The parts of a block and its doors."""
    places = block.places
    near = near_marks(places, block.ties)
    cuts = _door_cuts(cuts_by_pairs(near))
    pieces = [full_mark(len(near))]
    for pair, lots in cuts:
        pieces = [piece & (lot | pair) for piece in pieces for lot in lots if piece & lot]
    pairs = [pair for pair, _ in cuts]
    at = {place: 1 << k for k, place in enumerate(places)}
    ties = {at[a] | at[b]: (a, b) for a, b in block.ties}
    parts = [_part_of(places, ties, pairs, piece) for piece in pieces]
    for pair, lots in cuts:
        if len(lots) > 2 or pair in ties:
            parts.append(("bundle", marked(places, pair), (ties[pair],) if pair in ties else ()))
    parts = sorted(parts, key=lambda part: part[1])
    doors = [door for pair in pairs for door in _doors_at(parts, marked(places, pair))]
    return (tuple(parts), tuple(doors))


def _door_cuts(cuts):
    """The pairs of the doors, each one with the marks of the lots of the web without it.

    A pair that parts the block is that of a door if no other such pair has its places on
    two of its sides; else both are places of one ring.
    """
    marks = [mark for mark, _ in cuts]
    return [(pair, lots) for pair, lots in cuts if len(lots) > 2 or not _is_torn(marks, lots)]


def _is_torn(marks, lots):
    """Whether the two places of some mark are in two lots."""
    one, other = lots
    for mark in marks:
        if mark & one and mark & other:
            return True
    return False


def _part_of(places, ties, pairs, piece):
    """The ring or the held part with the places of a mark, of which the doors have these pairs."""
    own = [ties[mark] for mark in ties if mark & piece == mark and mark not in pairs]
    doors = [pair for pair in pairs if pair & piece == pair]
    names = marked(places, piece)
    kind = "ring" if len(own) + len(doors) == len(names) else "held"
    return (kind, names, tuple(own))


def _doors_at(parts, pair):
    """The doors with a pair: from its bundle to all others there, or else between two parts."""
    found = [k for k, part in enumerate(parts) if pair[0] in part[1] and pair[1] in part[1]]
    bundles = [k for k in found if parts[k][0] == "bundle"]
    middle = bundles[0] if bundles else found[0]
    return [(pair, min(k, middle), max(k, middle)) for k in found if k != middle]
