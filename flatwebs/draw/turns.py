"""The turns of the parts of a block, and the tables that they make together.

At each place of a part its sides stand in some order: these are the turns of the part, a dict
from its places to tuples of labels. The label of a tie is the tie, that of a door its index.
"""

from math import factorial

from flatwebs.base.marks import near_marks
from flatwebs.base.rings import from_least, turned_to
from flatwebs.base.webs import pair_of
from flatwebs.draw.growth import grown_rims, rounds_by


def most_turns(split, k):
    """How many turns a part has, if it has any."""
    kind, places, _ = split.told[0][k]
    if kind == "bundle":
        return factorial(len(_labels_by_pair(split, k)[places]) - 1)
    return 1 if kind == "ring" else 2


def has_turns(split, k):
    """Whether a part has any turns: whether it has a drawing."""
    return split.told[0][k][0] != "held" or _rims_of_part(split, k) is not None


def base_turns(split, k):
    """Any turns of a part, None if it has no drawing."""
    kind, places, _ = split.told[0][k]
    by_pair = _labels_by_pair(split, k)
    if kind == "bundle":
        labels = by_pair[places]
        return {places[0]: labels, places[1]: labels[::-1]}
    if kind == "ring":
        return {place: tuple([by_pair[pair][0] for pair in by_pair if place in pair]) for place in places}
    rims = _rims_of_part(split, k)
    if rims is None:
        return None
    rounds = rounds_by(rims)
    turns = {}
    for i, place in enumerate(places):
        turns[place] = tuple([by_pair[pair_of(place, places[j])][0] for j in rounds[i]])
    return turns


def numbered_turns(kind, base, number):
    """The turns of a part with a number, less than its factor."""
    if kind == "bundle":
        a, b = list(base)
        row = base[a][:1] + _arranged(base[a][1:], number)
        return {a: row, b: row[::-1]}
    return {place: base[place][::-1] for place in base} if number else base


def number_of_turns(split, k, drawing):
    """The number of the turns that a part has in a drawing."""
    kind, places, _ = split.told[0][k]
    if kind == "ring":
        return 0
    row = base_turns(split, k)[places[0]]
    seen = turned_to(turn_seen(split, k, drawing), row[0])
    if kind == "bundle":
        return _arrangement(row[1:], seen[1:])
    return 0 if seen == row else 1


def turn_seen(split, k, drawing):
    """The turn of the first place of a part, as a drawing shows it."""
    place = split.told[0][k][1][0]
    labels = _labels_seen(split, k, place)
    row = []
    for one in drawing.round_at(place):
        label = labels[pair_of(place, one)]
        if label not in row:
            row.append(label)
    return tuple(row)


def table_of_turns(split, turns):
    """The table of the block that the turns of all parts make."""
    parts, doors = split.told
    table = {}
    for k, part in enumerate(parts):
        for place in part[1]:
            if place not in table:
                table[place] = from_least(tuple(_unfolded(doors, turns, k, place, None)))
    return {place: table[place] for place in split.block.places}


def parts_outward(split, k):
    """All parts from this one on, each one behind the part through which it is reached.

    Each one is told with the index of the door through which it is reached, None for the first one.
    """
    found = [(k, None)]
    done = 0
    while done < len(found):
        here, entered = found[done]
        for d, (_, i, j) in enumerate(split.told[1]):
            if here in (i, j) and d != entered:
                found.append((i + j - here, d))
        done += 1
    return found


def _labels_seen(split, k, place):
    """For each tie at a place of a part the label under which the part sees it.

    The parts with a place are joined by doors that have it, so each door is passed just once.
    """
    parts, doors = split.told
    labels = {}
    # A part is told with the door through which it is entered, and with that through which one left the first part.
    todo = [(k, None, None)]
    while todo:
        here, entered, left = todo.pop()
        for tie in parts[here][2]:
            labels[tie] = tie if left is None else left
        for d, (pair, i, j) in enumerate(doors):
            if d != entered and here in (i, j) and place in pair:
                todo.append((i + j - here, d, d if left is None else left))
    return labels


def _rims_of_part(split, k):
    """The rims of some drawing of a held part, told by indices of its places; None if there is none."""
    return grown_rims(near_marks(split.told[0][k][1], list(_labels_by_pair(split, k))))


def _labels_by_pair(split, k):
    """For each pair of places that is a side of a part the tuple of the labels of these sides."""
    parts, doors = split.told
    by_pair = {tie: (tie,) for tie in parts[k][2]}
    for d, (pair, i, j) in enumerate(doors):
        if k in (i, j):
            by_pair[pair] = by_pair.get(pair, ()) + (d,)
    return by_pair


def _unfolded(doors, turns, k, place, entered):
    """The neighbours of a place in a part, from behind the door through which it is entered."""
    row = turns[k][place]
    if entered is not None:
        row = turned_to(row, entered)[1:]
    near = []
    for label in row:
        if isinstance(label, tuple):
            near.append(label[1] if label[0] == place else label[0])
        else:
            _, i, j = doors[label]
            near = near + _unfolded(doors, turns, i + j - k, place, label)
    return near


def _arranged(row, number):
    """The order of the members of a tuple that has a number."""
    rest = list(row)
    found = []
    while rest:
        number, at = divmod(number, len(rest))
        found.append(rest.pop(at))
    return tuple(found)


def _arrangement(row, found):
    """The number of an order of the members of a tuple."""
    rest = list(row)
    number = 0
    weight = 1
    for one in found:
        number = number + weight * rest.index(one)
        weight = weight * len(rest)
        rest.remove(one)
    return number
