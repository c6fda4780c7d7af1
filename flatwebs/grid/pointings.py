"""Pointings: along each inner tie of a triangulated drawing just one of its places points.

A pointing is a dict from the inner places to ascending triples of neighbours. Here it is also told
by a mark: the inner tie with index k has the bit k if the greater one of its places points.
"""

from flatwebs.base.rings import turned_to
from flatwebs.base.webs import pair_of
from flatwebs.rims.duals import ring_sides


def inner_places(drawing, rim):
    """The ascending tuple of the places that are not on the outer rim."""
    return tuple([place for place in drawing.web.places if place not in rim])


def inner_ties(drawing, rim):
    """The ascending tuple of the ties that are not on the outer rim."""
    return tuple([(a, b) for a, b in drawing.web.ties if a not in rim or b not in rim])


def any_pointing(drawing, rim):
    """A pointing, by taking off the places on the boundary one after the other.

    The boundary goes from the first root to the second one, at first over the third one. A place is
    taken off if its neighbours on the boundary are just the two beside it, and points at these two.
    The neighbours that come onto the boundary in its place point at it.
    """
    web = drawing.web
    bound = (rim[0], rim[2], rim[1])
    points = {place: [] for place in web.places}
    while len(bound) > 2:
        here = _free_place(web, bound)
        at = bound.index(here)
        row = turned_to(drawing.round_at(here), bound[at - 1])
        fresh = row[1:row.index(bound[at + 1])]
        points[here] = points[here] + [bound[at - 1], bound[at + 1]]
        for one in fresh:
            points[one].append(here)
        bound = bound[:at] + fresh + bound[at + 1:]
    return {place: tuple(sorted(points[place])) for place in inner_places(drawing, rim)}


def rings_of_three(drawing, rim):
    """The rings of three inner places, each one counterclockwise, from its least place on."""
    web = drawing.web
    places = inner_places(drawing, rim)
    rings = []
    for a, b in web.ties:
        for c in web.common(a, b):
            if b < c and a in places and b in places and c in places:
                # The rims to the right of a ring that runs counterclockwise are those around it.
                around = ring_sides(drawing, (a, b, c))[0]
                rings.append((a, b, c) if rim in around else (a, c, b))
    return rings


def points_round(pointing, ring):
    """Whether each place of a ring of three points at the next one."""
    x, y, z = ring
    return y in pointing[x] and z in pointing[y] and x in pointing[z]


def turned_pointing(pointing, ring):
    """The pointing in which each place of a ring points at the one before, and not at the next one."""
    turned = dict(pointing)
    for k, place in enumerate(ring):
        others = [one for one in pointing[place] if one not in ring]
        turned[place] = tuple(sorted(others + [ring[k - 1]]))
    return turned


def each_pointing(drawing, rim):
    """All pointings, each one once, by turning rings of three."""
    ties = inner_ties(drawing, rim)
    places = inner_places(drawing, rim)
    turns = [_turn_marks(ties, ring) for ring in rings_of_three(drawing, rim)]
    found = [_mark_of_pointing(ties, any_pointing(drawing, rim))]
    known = {found[0]: True}
    done = 0
    while done < len(found):
        mark = found[done]
        yield _pointing_of_mark(ties, places, mark)
        for whole, forth in turns:
            other = mark ^ whole
            if (mark & whole == forth or other & whole == forth) and other not in known:
                known[other] = True
                found.append(other)
        done += 1


def trees_of(drawing, rim, pointing):
    """The three trees that point along the same ties as a pointing."""
    trees = {}
    for place in pointing:
        by_root = {_root_behind(drawing, rim, pointing, place, one): one for one in pointing[place]}
        trees[place] = tuple([by_root[root] for root in rim])
    return trees


def _free_place(web, bound):
    """A place on the boundary, no end, whose neighbours on it are just the two beside it."""
    for place in bound[1:-1]:
        if len([one for one in bound if web.is_tied(place, one)]) == 2:
            return place
    return None


def _root_behind(drawing, rim, pointing, place, step):
    """The root to which one comes from a place over a neighbour at which it points, going straight on.

    Who comes to a place leaves it so that one of its other two ways on is to the left, one to the right.
    """
    before, here = place, step
    while here not in rim:
        row = turned_to(drawing.round_at(here), before)
        ways = [one for one in row if one in pointing[here]]
        before, here = here, ways[1]
    return here


def _turn_marks(ties, ring):
    """The mark of the ties of a ring, and the mark of those that are pointed along by their greater place."""
    steps = list(zip(ring, ring[1:] + ring[:1]))
    whole = sum([1 << ties.index(pair_of(a, b)) for a, b in steps])
    return (whole, sum([1 << ties.index((b, a)) for a, b in steps if b < a]))


def _mark_of_pointing(ties, pointing):
    """The mark of a pointing."""
    return sum([1 << k for k, (a, b) in enumerate(ties) if a in pointing.get(b, ())])


def _pointing_of_mark(ties, places, mark):
    """The pointing with a mark."""
    points = {place: [] for place in places}
    for k, (a, b) in enumerate(ties):
        if mark >> k & 1:
            points[b].append(a)
        else:
            points[a].append(b)
    return {place: tuple(points[place]) for place in places}
