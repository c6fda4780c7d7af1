"""All ways to fill pieces of a ring with ties until each piece has three places."""

from flatwebs.base.rings import turned_to
from flatwebs.base.webs import pair_of


def each_filling(order, pieces):
    """The tuples of ties that fill the pieces.

    `order` has all places of the pieces, ascending. One after the other gets all its ties
    within the pieces; behind that, its neighbours in each piece are tied, and the pieces are
    those on the far sides of these ties. So no choice leads nowhere, and as each choice takes
    the less tie first, the fillings of a ring come ascending.
    """
    if not pieces:
        yield ()
        return
    place = order[0]
    later = order[1:]
    own = [turned_to(piece, place) for piece in pieces if place in piece]
    across = tuple(sorted([one for row in own for one in row[2:-1]]))
    others = tuple([piece for piece in pieces if place not in piece])
    for chosen in _each_subset(across):
        left = [piece for row in own for piece in _left_pieces(row, chosen)]
        ties = [pair_of(place, one) for one in chosen]
        closing = [pair_of(piece[0], piece[-1]) for piece in left]
        further = others + tuple(left)
        for more in each_filling(later, further):
            yield tuple(ties + closing) + more


def _each_subset(names):
    """All parts of a tuple, those with its first member before those without it."""
    if not names:
        yield ()
        return
    first = names[:1]
    rest = names[1:]
    for chosen in _each_subset(rest):
        yield first + chosen
    for chosen in _each_subset(rest):
        yield chosen


def _left_pieces(row, chosen):
    """What a piece, told from a place on, leaves behind the ties between its neighbours."""
    spots = [k for k, one in enumerate(row) if k in (1, len(row) - 1) or one in chosen]
    return [row[i:j + 1] for i, j in zip(spots, spots[1:]) if j > i + 1]
