"""Straight ties between spots: which ones meet, which spots turn left, who stands round whom.

A spot is a pair of integers, of any length. The first axis goes to the right, the second one up.
"""

from flatwebs.base.rings import from_least
from flatwebs.base.webs import all_pairs


def turn_of(one, other, third):
    """1 if three spots in this order turn to the left, -1 if to the right, 0 if they do not turn."""
    left = (other[0] - one[0]) * (third[1] - one[1])
    right = (third[0] - one[0]) * (other[1] - one[1])
    if left == right:
        return 0
    return 1 if left > right else -1


def are_clear(web, spots, places):
    """Whether no two places have the same spot, no two ties without a common end have a common point,
    and none of these places lies on a tie of which it is no end.
    """
    if len(set(list(spots.values()))) < len(spots):
        return False
    if any([_lies_on(spots, place, tie) for tie in web.ties for place in places if place not in tie]):
        return False
    return not any([_do_cross(spots, one, other) for one, other in all_pairs(web.ties)])


def table_shown(web, spots):
    """The table that straight ties between spots show."""
    return {place: _round_shown(web, spots, place) for place in web.places}


def _lies_on(spots, place, tie):
    """Whether a place lies on a straight tie between two other spots."""
    x, y = spots[place]
    (a, b), (c, d) = spots[tie[0]], spots[tie[1]]
    if turn_of((a, b), (c, d), (x, y)) != 0:
        return False
    return min(a, c) <= x <= max(a, c) and min(b, d) <= y <= max(b, d)


def _do_cross(spots, one, other):
    """Whether each of two straight ties has its ends on both sides of the other one."""
    a, b, c, d = spots[one[0]], spots[one[1]], spots[other[0]], spots[other[1]]
    return turn_of(a, b, c) * turn_of(a, b, d) < 0 and turn_of(c, d, a) * turn_of(c, d, b) < 0


def _round_shown(web, spots, place):
    """The neighbours of a place as they stand round it, counterclockwise, the least one first."""
    near = web.neighbours(place)
    here = spots[place]
    steps = {one: (spots[one][0] - here[0], spots[one][1] - here[1]) for one in near}
    ahead = {one: len([other for other in near if _is_ahead(steps[other], steps[one])]) for one in near}
    return from_least(tuple(sorted(near, key=lambda one: ahead[one])))


def _is_ahead(step, other):
    """Whether a direction comes first of two, counterclockwise from that to the right on."""
    if _is_low(step) != _is_low(other):
        return _is_low(other)
    return turn_of((0, 0), step, other) > 0


def _is_low(step):
    """Whether a direction goes down, or straight to the left."""
    return step[1] < 0 or step[1] == 0 and step[0] < 0
