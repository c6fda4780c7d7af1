"""The blocks of a web, and the places that part it."""

from flatwebs.base.marks import (
    are_joined, bits_of, full_mark, is_one_lot, lot_marks, mark_of, marked, near_marks)
from flatwebs.base.webs import need_block, need_places, need_tied, need_web, pair_of, web_on
from flatwebs.base.words import are_names, is_ascending
from flatwebs.errors import InvalidOperation, InvalidPart


def cut_places(web):
    """The ascending tuple of the cut places."""
    need_web(web)
    near = near_marks(web.places, web.ties)
    cuts = [k for lot in lot_marks(near, full_mark(len(near))) for k in _cuts_of(near, lot)]
    return tuple([web.places[k] for k in sorted(cuts)])


def all_blocks(web):
    """The ascending tuple of the blocks of the web."""
    need_web(web)
    near = near_marks(web.places, web.ties)
    blocks = []
    for lot in lot_marks(near, full_mark(len(near))):
        blocks = blocks + blocks_within(near, lot)
    return tuple(sorted([marked(web.places, block) for block in blocks]))


def block_with(web, a, b):
    """The block of the web that has two tied places."""
    need_web(web)
    need_tied(web, a, b)
    return [block for block in all_blocks(web) if a in block and b in block][0]


def block_web(web, block):
    """The web of the places of a block of the web."""
    if block not in all_blocks(web):
        raise InvalidPart("no block of the web")
    return web_on(web, block)


def is_parting(web, value):
    """Whether the value is a parting set."""
    need_web(web)
    if not are_names(value) or not all([place in web.places for place in value]):
        return False
    if not is_ascending(value) or len(value) == len(web.places):
        return False
    return _parts(near_marks(web.places, web.ties), mark_of(web.places, value))


def is_least_parting(web, value):
    """Whether the value is a least parting set."""
    if not is_parting(web, value):
        return False
    near = near_marks(web.places, web.ties)
    return _is_least(near, mark_of(web.places, value))


def least_partings(web):
    """The least parting sets, those of fewer places first, and then ascending."""
    need_web(web)
    near = near_marks(web.places, web.ties)
    sets = [marked(web.places, mark) for mark in range(full_mark(len(near))) if _is_least(near, mark)]
    return tuple(sorted(sets, key=lambda row: (len(row), row)))


def parting_pairs(web):
    """The ascending tuple of the pairs of places that part a block."""
    need_block(web)
    return tuple([marked(web.places, mark) for mark, _ in cuts_by_pairs(near_marks(web.places, web.ties))])


def is_held(web):
    """Whether the web is a block of four places or more that no two places part."""
    need_web(web)
    return len(web.places) >= 4 and web.is_block and not parting_pairs(web)


def sides_at(web, a, b):
    """The ascending tuple of the sides of two places that part a block."""
    need_block(web)
    need_places(web, a, b)
    near = near_marks(web.places, web.ties)
    if not _parts(near, mark_of(web.places, (a, b))):
        raise InvalidOperation("the two places do not part the web")
    pair = pair_of(a, b)
    return _sides_by(web, pair, lot_marks(near, full_mark(len(near)) & ~mark_of(web.places, pair)))


def sides_by_pair(web):
    """The dict from the pairs of places that part a block to their sides."""
    sides = {}
    for mark, lots in cuts_by_pairs(near_marks(web.places, web.ties)):
        pair = marked(web.places, mark)
        sides[pair] = _sides_by(web, pair, lots)
    return sides


def _sides_by(web, pair, lots):
    """The ascending tuple of the sides of an ascending pair of places, by the marks of the lots without it."""
    sides = [marked(web.places, lot) for lot in lots]
    return tuple([()] + sides) if pair in web.ties else tuple(sides)


def blocks_within(near, lot):
    """The marks of the blocks of a lot: it is cut at a cut place, and each piece again."""
    cuts = _cuts_of(near, lot)
    if not cuts:
        return [lot]
    cut = 1 << cuts[0]
    blocks = []
    for piece in lot_marks(near, lot & ~cut):
        blocks = blocks + blocks_within(near, piece | cut)
    return blocks


def cuts_by_pairs(near):
    """The marks of the pairs that part a block, by their places, each one with the lots without it."""
    whole = full_mark(len(near))
    cuts = []
    for i, beside in enumerate(near):
        for j in range(i + 1, len(near)):
            rest = whole & ~(1 << i) & ~(1 << j)
            # Each lot has neighbours of both places, so they part the block if those of one do not hang together.
            if not are_joined(near, rest, beside & rest):
                cuts.append((whole & ~rest, lot_marks(near, rest)))
    return cuts


def _cuts_of(near, lot):
    """The indices of the cut places of a lot."""
    return [k for k in bits_of(lot) if not is_one_lot(near, lot & ~(1 << k))]


def _parts(near, mark):
    """Whether the web falls apart without the places of a mark, which are not all."""
    return not is_one_lot(near, full_mark(len(near)) & ~mark)


def _is_least(near, mark):
    """Whether the places of a mark are a least parting set.

    They are if each of them has a neighbour in every lot of the rest: then the web hangs
    together again with any of them put back, and else the neighbours of a lot are fewer
    places that part it.
    """
    rest = full_mark(len(near)) & ~mark
    lots = lot_marks(near, rest)
    return len(lots) > 1 and all([near[k] & lot for lot in lots for k in bits_of(mark)])
