"""Orders of all places from one to another one, each other place between two neighbours."""

from flatwebs.base.marks import bits_of, full_mark, is_one_lot, near_marks
from flatwebs.base.webs import need_places, need_web, pair_of
from flatwebs.base.words import are_different
from flatwebs.errors import InvalidOperation


def order_from(web, a, b):
    """Any order from a to b, None if there is none."""
    for order in each_order(web, a, b):
        return order
    return None


def is_order(web, a, b, value):
    """Whether the value is an order from a to b."""
    _need_ends(web, a, b)
    if not are_different(value, len(web.places)) or not all([place in web.places for place in value]):
        return False
    if value[0] != a or value[-1] != b:
        return False
    return all([_is_between(web, value, k) for k in range(1, len(value) - 1)])


def stop_for(web, a, b):
    """Any stop for a and b, None if there is none."""
    _need_ends(web, a, b)
    stops = [place for place in web.places if _is_stop_at(web, a, b, place)]
    return stops[0] if stops else None


def is_stop(web, a, b, value):
    """Whether the value is a stop for a and b."""
    _need_ends(web, a, b)
    return value in web.places and _is_stop_at(web, a, b, value)


def each_order(web, a, b):
    """All orders from a to b, ascending."""
    _need_ends(web, a, b)
    near = near_marks(web.places, web.ties)
    counts = _counts_from(web, a, b)
    last = 1 << web.places.index(b)
    begun = (web.places.index(a),)
    for row in _each_row(near, counts, last, begun):
        yield tuple([web.places[k] for k in row]) + (b,)


def count_orders(web, a, b):
    """The number of the orders from a to b."""
    _need_ends(web, a, b)
    return _counts_from(web, a, b)[1 << web.places.index(a)]


def is_tied_order(web, value):
    """Whether the value is an order of the web from a place to a tied one."""
    if not are_different(value, 3) or not all([place in web.places for place in value]):
        return False
    a, b = value[0], value[-1]
    return web.is_tied(a, b) and is_order(web, a, b, value)


def _need_ends(web, a, b):
    """Refuses what is no web, what are no places of it, and then places without orders at all."""
    need_web(web)
    need_places(web, a, b)
    if a == b or len(web.places) < 3:
        raise InvalidOperation("the places are equal, or the web has fewer than three")


def _is_between(web, order, k):
    """Whether the place with an index has a neighbour ahead of it and one behind it."""
    near = web.neighbours(order[k])
    return any([place in near for place in order[:k]]) and any([place in near for place in order[k + 1:]])


def _is_stop_at(web, a, b, place):
    """Whether a place bars all orders from a to b."""
    near = near_marks(web.places, web.ties + (pair_of(a, b),))
    return not is_one_lot(near, full_mark(len(near)) & ~(1 << web.places.index(place)))


def _counts_from(web, a, b):
    """For each mark of places with which an order can begin, b not among them, how it can go on.

    Whether a place can come next is told by the mark alone: it needs a neighbour in it and one
    beyond. So the ways on are counted from the greatest marks down, each mark just once.
    """
    near = near_marks(web.places, web.ties)
    whole = full_mark(len(near))
    first = 1 << web.places.index(a)
    last = 1 << web.places.index(b)
    counts = {whole & ~last: 1}
    for mark in range(whole, 0, -1):
        if mark & first and not mark & last and mark != whole & ~last:
            counts[mark] = sum([counts[mark | (1 << k)] for k in _next_places(near, mark, last)])
    return counts


def _next_places(near, mark, last):
    """The indices of the places, but the last one, that can come behind those of a mark."""
    beyond = full_mark(len(near)) & ~mark
    return [k for k in bits_of(beyond & ~last) if near[k] & mark and near[k] & beyond]


def _each_row(near, counts, last, begun):
    """All rows of indices that go on from this one, up to the last place, ascending."""
    mark = sum([1 << k for k in begun])
    if mark | last == full_mark(len(near)):
        yield begun
        return
    for k in _next_places(near, mark, last):
        if counts[mark | (1 << k)]:
            longer = begun + (k,)
            yield from _each_row(near, counts, last, longer)
