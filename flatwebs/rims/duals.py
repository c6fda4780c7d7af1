"""Duals: the drawing whose places are the rims of a drawing of a held web."""

from flatwebs.base.drawings import Drawing, need_drawings, steps_of
from flatwebs.base.marks import linked_lots
from flatwebs.base.rings import from_least, is_one_ring, is_ring, ring_of_ties, ring_ties, turned_to
from flatwebs.base.webs import Web, are_ties_of, need_hanging, pair_of
from flatwebs.base.words import are_different, is_naming
from flatwebs.errors import InvalidOperation, InvalidRoute, InvalidTie, TooMany
from flatwebs.tree.partings import is_held

MAX_RIMS = 12

_LETTERS = "abcdefghijkl"


def rim_names(drawing):
    """The dict from the rim names to the rims."""
    _need_held_drawn(drawing)
    return _named_rims(drawing)


def dual_of(drawing):
    """The dual of a drawing."""
    _need_held_drawn(drawing)
    named = _named_rims(drawing)
    table = {}
    for name in named:
        beyond = [_name_along(drawing, named, q, p) for p, q in steps_of(named[name])]
        table[name] = from_least(tuple(beyond))
    ties = sorted(set([pair_of(name, one) for name in table for one in table[name]]))
    return Drawing(Web(tuple(named), tuple(ties)), table)


def dual_ties(drawing):
    """The dict from the ties of the web to the ties of the dual."""
    _need_held_drawn(drawing)
    named = _named_rims(drawing)
    ties = {}
    for a, b in drawing.web.ties:
        ties[(a, b)] = pair_of(_name_along(drawing, named, a, b), _name_along(drawing, named, b, a))
    return ties


def names_back(drawing):
    """The dict from the rim names of the dual to the places of the web."""
    dual = dual_of(drawing)
    named = _named_rims(drawing)
    placed = {}
    for place in drawing.web.places:
        row = [_name_of(named, rim) for rim in drawing.rims_round(place)]
        placed[from_least(tuple(row))] = place
    again = _named_rims(dual)
    return {name: placed[again[name]] for name in again}


def is_ring_set(web, value):
    """Whether the value is the ties of one ring."""
    need_hanging(web)
    return are_ties_of(web, value) and value != () and is_one_ring(Web.of_ties(*value))


def is_least_cut(web, value):
    """Whether the value are ties without which, but not without fewer of them, the web falls apart."""
    need_hanging(web)
    if not are_ties_of(web, value):
        return False
    lots = Web(web.places, tuple([tie for tie in web.ties if tie not in value])).lots
    return len(lots) == 2 and all([(a in lots[0]) != (b in lots[0]) for a, b in value])


def is_joining_tree(web, value):
    """Whether the value are ties by which, but not by fewer of them, the web hangs together."""
    need_hanging(web)
    return are_ties_of(web, value) and len(value) == len(web.places) - 1 and Web(web.places, value).hangs


def cut_of_ring(drawing, ring):
    """The least cut of the dual's web that the ties of a ring have."""
    ties = dual_ties(drawing)
    _need_ring_of(drawing.web, ring)
    return tuple(sorted([ties[tie] for tie in ring_ties(ring)]))


def ring_of_cut(drawing, cut):
    """The plain ring whose ties have these ties of the dual."""
    if not is_least_cut(dual_of(drawing).web, cut):
        raise InvalidTie("no least cut of the web of the dual")
    ties = dual_ties(drawing)
    return ring_of_ties([tie for tie in ties if ties[tie] in cut])


def ring_sides(drawing, ring):
    """The rims of the first side of a ring, and those of the other one."""
    need_drawings(drawing)
    _need_ring_of(drawing.web, ring)
    rims = drawing.rims
    on_ring = ring_ties(ring)
    links = []
    for a, b in drawing.web.ties:
        if (a, b) not in on_ring:
            links.append((rims.index(drawing.rim_along(a, b)), rims.index(drawing.rim_along(b, a))))
    # What no tie of the ring parts is joined by the others: just two lots of rims.
    start = rims.index(drawing.rim_along(ring[0], ring[1]))
    one, other = linked_lots(len(rims), links)
    first, second = (one, other) if start in one else (other, one)
    return (tuple([rims[k] for k in first]), tuple([rims[k] for k in second]))


def within_ring(drawing, ring):
    """The places within the first side of a ring, and those within the other one."""
    first, second = ring_sides(drawing, ring)
    return (_off_ring(first, ring), _off_ring(second, ring))


def is_dual_by(drawing, other, value):
    """Whether the value names the rims of a drawing so that its dual is the other drawing."""
    dual = dual_of(drawing)
    need_drawings(other)
    return is_naming(dual.web.places, value) and dual.renamed(value) == other


def dual_naming(drawing, other):
    """Any dict from the rim names by which the dual is the other drawing, None if there is none."""
    dual = dual_of(drawing)
    need_drawings(other)
    name = dual.web.places[0]
    start = dual.round_at(name)[0]
    for place in other.web.places:
        for near in other.round_at(place):
            naming = _naming_from(dual, other, (name, start, place, near))
            if naming is not None:
                return naming
    return None


def _need_held_drawn(drawing):
    """Refuses what is no drawing of a held web, then too many rims."""
    need_drawings(drawing)
    if not is_held(drawing.web):
        raise InvalidOperation("the web is not held")
    if len(drawing.rims) > MAX_RIMS:
        raise TooMany(MAX_RIMS)


def _need_ring_of(web, ring):
    """Refuses what is no ring of the web."""
    if not is_ring(web, ring):
        raise InvalidRoute("no ring of the web")


def _named_rims(drawing):
    """The dict from the rim names to the rims."""
    return {f"r{letter}": rim for letter, rim in zip(_LETTERS, drawing.rims)}


def _name_of(named, rim):
    """The name of a rim."""
    return [name for name in named if named[name] == rim][0]


def _name_along(drawing, named, place, neighbour):
    """The name of the rim on which one goes from a place to a neighbour."""
    return _name_of(named, drawing.rim_along(place, neighbour))


def _off_ring(rims, ring):
    """The ascending tuple of the places of some rims that are not on a ring."""
    return tuple(sorted(set([place for rim in rims for place in rim if place not in ring])))


def _naming_from(one, other, start):
    """The names by which the one drawing is the other one, if its places go so; None if none do.

    A start tells a place and a neighbour, and the place and the neighbour for which they stand.
    From there on the rounds tell all the rest.
    """
    naming = {}
    todo = [start]
    while todo:
        a, before, b, near = todo.pop()
        row = turned_to(one.round_at(a), before)
        twin = turned_to(other.round_at(b), near)
        if len(row) != len(twin):
            return None
        if a not in naming:
            naming[a] = b
            for x, y in zip(row, twin):
                todo.append((x, a, y, b))
    names = {place: naming[place] for place in one.web.places}
    if not are_different(tuple(names.values()), 1) or one.renamed(names) != other:
        return None
    return names
