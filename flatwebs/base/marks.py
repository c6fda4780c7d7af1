"""Marks: sets of places told as one number, the place with index k as the bit k.

Most questions here ask what hangs together without some places, very often;
numbers answer them faster than new webs.
"""


def near_marks(places, ties):
    """The marks of the neighbours of each place, in the order of the places."""
    at = {place: k for k, place in enumerate(places)}
    near = [0 for _ in places]
    for a, b in ties:
        i, j = at[a], at[b]
        near[i] = near[i] | (1 << j)
        near[j] = near[j] | (1 << i)
    return near


def full_mark(many):
    """The mark of all of so many places."""
    return (1 << many) - 1


def mark_of(places, some):
    """The mark of some of the places."""
    return sum([1 << k for k, place in enumerate(places) if place in some])


def marked(places, mark):
    """The places of a mark, ascending as the places are."""
    return tuple([place for k, place in enumerate(places) if mark >> k & 1])


def bits_of(mark):
    """The indices of the places of a mark, ascending."""
    return [k for k in range(mark.bit_length()) if mark >> k & 1]


def grown_mark(near, within, start):
    """What hangs together with the places of `start` by places within a mark."""
    found = start
    fresh = start
    while fresh:
        low = fresh & -fresh
        more = near[low.bit_length() - 1] & within & ~found
        found = found | more
        fresh = (fresh ^ low) | more
    return found


def lot_marks(near, within):
    """The marks of the lots of the places within a mark, by their least places."""
    lots = []
    rest = within
    while rest:
        lot = grown_mark(near, within, rest & -rest)
        lots.append(lot)
        rest = rest & ~lot
    return lots


def are_joined(near, within, some):
    """Whether some of the places within a mark, at least one, hang together by places within it."""
    found = some & -some
    fresh = found
    while some & ~found and fresh:
        low = fresh & -fresh
        more = near[low.bit_length() - 1] & within & ~found
        found = found | more
        fresh = (fresh ^ low) | more
    return not some & ~found


def is_one_lot(near, within):
    """Whether the places within a mark, at least one, hang together."""
    return are_joined(near, within, within)


def shortest_way(near, starts, within, goals):
    """A shortest way from one of the places of a mark, by places within a mark, to one of the goals; or ()."""
    ways = [(k,) for k in bits_of(starts)]
    rest = within & ~starts
    while ways:
        longer = []
        for way in ways:
            if goals >> way[-1] & 1:
                return way
            steps = near[way[-1]] & rest
            rest = rest & ~steps
            longer = longer + [way + (step,) for step in bits_of(steps)]
        ways = longer
    return ()


def linked_lots(many, links):
    """The lots of the indices below a number that are joined by links, ascending tuples."""
    near = near_marks(list(range(many)), links)
    return [tuple(bits_of(lot)) for lot in lot_marks(near, full_mark(many))]
