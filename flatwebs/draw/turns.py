"""The turns of the parts of a block, and the tables that they make together.

At each place of a part its sides stand in some order: these are the turns of the part, a dict
from its places to tuples of labels. The label of a tie is the tie, that of a door its index.
"""

from flatwebs.base.rings import from_least, turned_to
from flatwebs.base.webs import pair_of
from flatwebs.draw.bars import drawing_of


def base_turns(tree, k):
    """Any turns of a part; the web of a part that is no bundle has a drawing."""
    labels = _labels_of(tree, k)
    kind, places, _ = tree[k]
    if kind == "bundle":
        return {places[0]: labels, places[1]: labels[::-1]}
    by_pair = {_ends_of(tree, one): one for one in labels}
    table = drawing_of(tree.part_web(k)).table
    return {place: tuple([by_pair[pair_of(place, one)] for one in table[place]]) for place in table}


def numbered_turns(kind, base, number):
    """The turns of a part with a number, less than its factor."""
    if kind == "bundle":
        a, b = list(base)
        row = base[a][:1] + _arranged(base[a][1:], number)
        return {a: row, b: row[::-1]}
    return {place: base[place][::-1] for place in base} if number else base


def number_of_turns(tree, k, drawing):
    """The number of the turns that a part has in a drawing."""
    kind, places, _ = tree[k]
    row = base_turns(tree, k)[places[0]]
    seen = turned_to(turn_seen(tree, k, drawing), row[0])
    if kind == "bundle":
        return _arrangement(row[1:], seen[1:])
    return 0 if seen == row else 1


def turn_seen(tree, k, drawing):
    """The turn of the first place of a part, as a drawing shows it."""
    place = tree[k][1][0]
    toward = _doors_toward(tree, k)
    row = []
    for one in drawing.round_at(place):
        m = tree.part_with(place, one)
        label = pair_of(place, one) if m == k else toward[m]
        if label not in row:
            row.append(label)
    return tuple(row)


def table_of_turns(tree, turns):
    """The table of the joined web that the turns of all parts make."""
    table = {}
    for place in tree.joined.places:
        table[place] = from_least(tuple(_unfolded(tree, turns, tree.parts_at(place)[0], place, None)))
    return table


def parts_outward(tree):
    """All parts from the first one on, each one behind the part through which it is reached.

    Each one is told with the index of the door through which it is reached, None for the first one.
    """
    return _walk_from(tree, 0)


def _walk_from(tree, k):
    """The parts from this one on, as `parts_outward` tells them."""
    found = [(k, None)]
    done = 0
    while done < len(found):
        here, entered = found[done]
        for d, (_, i, j) in enumerate(tree.doors):
            if here in (i, j) and d != entered:
                found.append((i + j - here, d))
        done += 1
    return found


def _doors_toward(tree, k):
    """For each other part the index of the door through which one leaves a part for it."""
    toward = {}
    for m, entered in _walk_from(tree, k)[1:]:
        _, i, j = tree.doors[entered]
        toward[m] = toward.get(i + j - m, entered)
    return toward


def _labels_of(tree, k):
    """The labels of the sides of a part."""
    doors = [d for d, (_, i, j) in enumerate(tree.doors) if k in (i, j)]
    return tree[k][2] + tuple(doors)


def _ends_of(tree, label):
    """The pair of places of a side."""
    return label if isinstance(label, tuple) else tree.doors[label][0]


def _unfolded(tree, turns, k, place, entered):
    """The neighbours of a place in a part, from behind the door through which it is entered."""
    row = turns[k][place]
    if entered is not None:
        row = turned_to(row, entered)[1:]
    near = []
    for label in row:
        if isinstance(label, tuple):
            near.append(label[1] if label[0] == place else label[0])
        else:
            _, i, j = tree.doors[label]
            near = near + _unfolded(tree, turns, i + j - k, place, label)
    return near


def _arranged(row, number):
    """The order of the members of a tuple that has a number."""
    rest = list(row)
    found = []
    while rest:
        number, at = divmod(number, len(rest))
        found.append(rest.pop(at))
    return tuple(found)


def _arrangement(row, found):
    """The number of an order of the members of a tuple."""
    rest = list(row)
    number = 0
    weight = 1
    for one in found:
        number = number + weight * rest.index(one)
        weight = weight * len(rest)
        rest.remove(one)
    return number
