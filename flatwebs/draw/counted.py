"""All drawings of a block, numbered, and the flips that lead from one to another one."""

from flatwebs.base.drawings import Drawing, need_block_drawn
from flatwebs.base.rings import from_least, turned_to
from flatwebs.base.webs import need_block
from flatwebs.base.words import is_count
from flatwebs.draw.turns import (
    base_turns, has_turns, most_turns, number_of_turns, numbered_turns, parts_outward, table_of_turns, turn_seen)
from flatwebs.errors import InvalidFlip, InvalidNumber, InvalidOperation
from flatwebs.tree.partings import is_held, sides_at, sides_by_pair
from flatwebs.tree.splits import Split


def factors(web):
    """The tuple of the factors of the parts, in the order of the tree."""
    need_block(web)
    split = Split(web)
    return tuple([most_turns(split, k) if has_turns(split, k) else 0 for k in range(len(split.told[0]))])


def count_drawings(web):
    """The number of the drawings."""
    return _product_of(factors(web))


def drawing_at(web, index):
    """The drawing with a number."""
    need_block(web)
    split = Split(web)
    bases, counts = _turns_in(split)
    if not is_count(index) or index >= _product_of(counts):
        raise InvalidNumber(index)
    return _numbered(split, bases, counts, index)


def number_of(drawing):
    """The number of a drawing."""
    need_block_drawn(drawing)
    split = Split(drawing.web)
    number = 0
    weight = 1
    for k in range(len(split.told[0])):
        number = number + weight * number_of_turns(split, k, drawing)
        weight = weight * most_turns(split, k)
    return number


def each_drawing(web):
    """All drawings, in the order of their numbers."""
    need_block(web)
    split = Split(web)
    bases, counts = _turns_in(split)
    for index in range(_product_of(counts)):
        yield _numbered(split, bases, counts, index)


def sides_round(drawing, a, b):
    """The sides of two places, in their order in the round of a, the least one first."""
    need_block_drawn(drawing)
    return _ordered_sides(drawing, a, b, sides_at(drawing.web, a, b))


def is_flip(drawing, value):
    """Whether the value is a flip of the drawing."""
    return value in flips_of(drawing)


def flips_of(drawing):
    """The ascending tuple of all flips of a drawing."""
    need_block_drawn(drawing)
    by_pair = sides_by_pair(drawing.web)
    if not by_pair:
        return (("mirror",),) if len(drawing.web) > 3 else ()
    flips = []
    for a, b in by_pair:
        row = _ordered_sides(drawing, a, b, by_pair[(a, b)])
        flips = flips + [("turn", a, b, side) for side in row if side]
        if len(row) > 2:
            flips = flips + [("change", a, b, side, other) for side, other in zip(row, row[1:] + row[:1])]
    return tuple(sorted(flips))


def flipped(drawing, flip):
    """The drawing behind a flip."""
    if not is_flip(drawing, flip):
        raise InvalidFlip("no flip of the drawing")
    return _behind_flip(drawing, flip)


def after_flips(drawing, flips):
    """The drawing behind all flips of a tuple, one behind the other."""
    need_block_drawn(drawing)
    if not isinstance(flips, tuple):
        raise InvalidFlip("no tuple of flips")
    now = drawing
    for flip in flips:
        now = flipped(now, flip)
    return now


def way_between(one, other):
    """Any tuple of flips that leads from the one drawing to the other one."""
    _need_equal_webs(one, other)
    if is_held(one.web):
        return () if one == other else (("mirror",),)
    split = Split(one.web)
    way = []
    now = one
    # What is done at a part changes no part ahead of it.
    for k, entered in parts_outward(split, 0):
        flip = _flip_toward(split, k, entered, now, other)
        while flip is not None:
            way.append(flip)
            now = _behind_flip(now, flip)
            flip = _flip_toward(split, k, entered, now, other)
    return tuple(way)


def is_mirrored(one, other):
    """Whether the one drawing is the mirror of the other one."""
    _need_equal_webs(one, other)
    return one == other.mirror


def _need_equal_webs(one, other):
    """Refuses what are no drawings of one block."""
    need_block_drawn(one, other)
    if one.web != other.web:
        raise InvalidOperation("these are drawings of two webs")


def _ordered_sides(drawing, a, b, sides):
    """These sides of two places, in their order in the round of a, the least one first."""
    row = []
    for one in drawing.round_at(a):
        # The tie of the two places is told as a side without places.
        side = [found for found in sides if one in found or one == b and not found][0]
        if side not in row:
            row.append(side)
    return from_least(tuple(row))


def _product_of(numbers):
    """The product of some numbers."""
    many = 1
    for number in numbers:
        many = many * number
    return many


def _turns_in(split):
    """The turns of each part from which its other ones are told, None if it has none; and their numbers."""
    bases = [base_turns(split, k) for k in range(len(split.told[0]))]
    return (bases, [0 if base is None else most_turns(split, k) for k, base in enumerate(bases)])


def _numbered(split, bases, counts, index):
    """The drawing with a number, told by turns of each part, and by how many it has."""
    turns = []
    rest = index
    for part, count, base in zip(split.told[0], counts, bases):
        rest, number = divmod(rest, count)
        turns.append(numbered_turns(part[0], base, number))
    return Drawing(split.block, table_of_turns(split, turns))


def _behind_flip(drawing, flip):
    """The drawing behind one of its flips."""
    if flip == ("mirror",):
        return drawing.mirror
    table = drawing.table
    a, b, side = flip[1:4]
    if flip[0] == "turn":
        for place in side:
            table[place] = from_least(table[place][::-1])
        table[a] = _turned_run(table[a], side)
        table[b] = _turned_run(table[b], side)
    else:
        other = flip[4]
        # A side without places is the tie of the two.
        table[a] = _changed_runs(table[a], side or (b,), other or (b,))
        table[b] = _changed_runs(table[b], other or (a,), side or (a,))
    return Drawing(drawing.web, table)


def _turned_run(near, some):
    """A round in which some neighbours, one behind the other, come in the opposite order."""
    row = _from_run(near, some)
    many = len([one for one in row if one in some])
    return from_least(row[:many][::-1] + row[many:])


def _changed_runs(near, some, others):
    """A round in which some neighbours, and others just behind them, change places."""
    row = _from_run(near, some)
    first = tuple([one for one in row if one in some])
    second = tuple([one for one in row if one in others])
    return from_least(second + first + row[len(first + second):])


def _from_run(near, some):
    """A round, told from the first one of some neighbours on that stand one behind the other."""
    at = [k for k, one in enumerate(near) if one in some and near[k - 1] not in some][0]
    return near[at:] + near[:at]


def _flip_toward(split, k, entered, now, other):
    """A flip by which a part comes nearer to what it is in another drawing, None if it is that."""
    kind, places, _ = split.told[0][k]
    if kind == "bundle":
        a, b = places
        row = sides_round(now, a, b)
        goal = sides_round(other, a, b)
        wrong = [side for side, wanted in zip(row, goal) if side != wanted]
        if not wrong:
            return None
        at = row.index(goal[row.index(wrong[0])])
        return ("change", a, b, row[at - 1], row[at])
    return None if kind == "ring" else _turn_toward(split, k, entered, now, other)


def _turn_toward(split, k, entered, now, other):
    """The flip that turns a held part and what lies behind it, None if it is turned already."""
    seen = turn_seen(split, k, now)
    if seen == turned_to(turn_seen(split, k, other), seen[0]):
        return None
    parts, doors = split.told
    # With the first part all that lies with it on one side of any door can be turned.
    a, b = doors[entered or 0][0]
    inner = [place for place in parts[k][1] if place not in (a, b)][0]
    side = [found for found in sides_at(now.web, a, b) if inner in found][0]
    return ("turn", a, b, side)
