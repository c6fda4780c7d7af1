"""Whether a web has a drawing, any drawing of it, and what bars it, told by the marks of neighbours."""

from flatwebs.base.marks import bits_of, full_mark, lot_marks
from flatwebs.draw.growth import grown_rims, rounds_by
from flatwebs.tree.partings import blocks_within


def is_flat(near):
    """Whether each lot of a web has a drawing."""
    bare = _bare_marks(near)
    within = sum([1 << k for k, beside in enumerate(bare) if beside])
    for lot in lot_marks(bare, within):
        for block in blocks_within(bare, lot):
            # Four places have a drawing with whatever ties.
            if len(bits_of(block)) > 4 and grown_rims(_within(bare, block)) is None:
                return False
    return True


def flat_rounds(near):
    """The rounds of some drawing of a web, each one told from any neighbour on; None if there is none."""
    rounds = [() for _ in near]
    for lot in lot_marks(near, full_mark(len(near))):
        for block in sorted(blocks_within(near, lot), key=bits_of):
            row = bits_of(block)
            if len(row) < 3:
                found = {k: bits_of(near[k] & block) for k in row}
            else:
                rims = grown_rims(_within(near, block))
                if rims is None:
                    return None
                found = rounds_by(rims)
            # At a cut place the rounds of the blocks follow one another.
            for k in row:
                rounds[k] = rounds[k] + tuple(found[k])
    return rounds


def bar_ways(near):
    """The routes of a bar of a web without a drawing, each one in both directions."""
    bare = list(near)
    for k in range(len(near)):
        fewer = _without(bare, k, full_mark(len(near)))
        if not is_flat(fewer):
            bare = fewer
    for i, j in [(i, j) for i, beside in enumerate(bare) for j in bits_of(beside) if i < j]:
        fewer = _without(bare, i, 1 << j)
        if not is_flat(fewer):
            bare = fewer
    # What is left has no tie too many, so it is just the routes of a bar.
    joints = [k for k, beside in enumerate(bare) if len(bits_of(beside)) > 2]
    return [_way_on(bare, k, step, joints) for k in joints for step in bits_of(bare[k])]


def _bare_marks(near):
    """The marks without the places that have one or two neighbours, of which the latter are tied instead.

    This is done again and again; it neither makes nor takes away a drawing.
    """
    bare = list(near)
    todo = list(range(len(near)))
    while todo:
        k = todo.pop()
        beside = bare[k]
        rest = beside & (beside - 1)
        if beside and not rest & (rest - 1):
            bare[k] = 0
            for i in bits_of(beside):
                bare[i] = (bare[i] | beside) & ~(1 << i) & ~(1 << k)
                todo.append(i)
    return bare


def _within(near, mark):
    """The marks of the neighbours within a mark, of the places within it."""
    return [beside & mark if mark >> k & 1 else 0 for k, beside in enumerate(near)]


def _without(near, k, some):
    """The marks without the ties of a place to some places."""
    fewer = [beside & ~(1 << k) if some >> i & 1 else beside for i, beside in enumerate(near)]
    fewer[k] = near[k] & ~some
    return fewer


def _way_on(near, k, step, joints):
    """The route from a joint over a neighbour, up to the next joint; all others have two neighbours."""
    way = (k, step)
    while way[-1] not in joints:
        way = way + tuple([one for one in bits_of(near[way[-1]]) if one != way[-2]])
    return way
