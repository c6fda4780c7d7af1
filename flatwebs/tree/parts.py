"""The tree of parts of a block: rings, bundles and held parts, joined by doors."""

from flatwebs.base.marks import linked_lots
from flatwebs.base.rings import is_one_ring
from flatwebs.base.webs import (
    Web, all_pairs, gathered_web, is_tie, is_web_of, need_block, need_places, need_tied, need_web, pair_of)
from flatwebs.base.words import is_ascending, is_count, is_naming
from flatwebs.errors import InvalidOperation, InvalidNumber, InvalidPart
from flatwebs.tree.partings import is_held
from flatwebs.tree.splits import Split


class PartTree:
    """The parts of a block and the doors between them. It never changes."""

    def __init__(self, parts, doors):
        if isinstance(parts, Split):
            # What a block was split into need not be judged again.
            self._parts, self._doors = parts.told
            self._joined = parts.block
        elif _is_tree(parts, doors):
            self._parts = parts
            self._doors = doors
            self._joined = _joined_web(parts)
        else:
            raise InvalidPart("there is no tree with these parts and doors")

    @classmethod
    def of_web(cls, web):
        """The tree of a block."""
        need_block(web)
        return cls(Split(web), ())

    @property
    def parts(self):
        """The tuple of the parts, ascending by places."""
        return self._parts

    @property
    def doors(self):
        """The ascending tuple of the doors."""
        return self._doors

    @property
    def joined(self):
        """The web with all places and all ties of the parts."""
        return self._joined

    def sides(self, index):
        """The ascending tuple of the sides of a part, equal ones side by side."""
        self._need_index(index)
        return _sides_of_part(self._parts, self._doors, index)

    def part_web(self, index):
        """The web of the places of a part with its sides as ties."""
        return gathered_web(self[index][1], self.sides(index))

    def beside(self, index):
        """The ascending tuple of the indices of the parts to which the doors of a part lead."""
        self._need_index(index)
        found = [i + j - index for _, i, j in self._doors if index in (i, j)]
        return tuple(sorted(found))

    def part_with(self, a, b):
        """The index of the part that has the tie between two places."""
        need_tied(self._joined, a, b)
        tie = pair_of(a, b)
        return [k for k, part in enumerate(self._parts) if tie in part[2]][0]

    def parts_at(self, place):
        """The ascending tuple of the indices of the parts with a place."""
        need_places(self._joined, place)
        return tuple([k for k, part in enumerate(self._parts) if place in part[1]])

    @property
    def parted_pairs(self):
        """The ascending tuple of the pairs of places that part the joined web."""
        pairs = [pair for pair, _, _ in self._doors]
        for k, part in enumerate(self._parts):
            if part[0] == "ring":
                sides = _sides_of_part(self._parts, self._doors, k)
                pairs = pairs + [pair for pair in all_pairs(part[1]) if pair not in sides]
        return tuple(sorted(set(pairs)))

    def renamed(self, names):
        """The tree with other names, by a dict from its places to different names."""
        if not is_naming(self._joined.places, names):
            raise InvalidOperation("no dict from the places to different names")
        parts = [_renamed_part(part, names) for part in self._parts]
        order = sorted(parts, key=lambda part: part[1])
        doors = []
        for (a, b), i, j in self._doors:
            ends = sorted([order.index(parts[i]), order.index(parts[j])])
            doors.append((pair_of(names[a], names[b]), ends[0], ends[1]))
        return PartTree(tuple(order), tuple(sorted(doors)))

    def _need_index(self, index):
        """Refuses what is no index of a part."""
        if not is_count(index) or index >= len(self._parts):
            raise InvalidNumber(index)

    def __getitem__(self, at):
        self._need_index(at)
        return self._parts[at]

    def __contains__(self, value):
        return value in self._parts

    def __len__(self):
        return len(self._parts)

    def __iter__(self):
        return iter(self._parts)

    def __eq__(self, other):
        return isinstance(other, PartTree) and self._parts == other._parts and self._doors == other._doors

    def __str__(self):
        return f"tree of {len(self._parts)} parts, {len(self._doors)} doors"


def is_tree_of(web, value):
    """Whether the value is the tree of parts of which the web is the joined web, as a pair."""
    need_web(web)
    if not isinstance(value, tuple) or len(value) != 2:
        return False
    parts, doors = value
    return _is_tree(parts, doors) and _joined_web(parts) == web


def _is_tree(parts, doors):
    """Whether these are the parts and the doors of a tree of parts."""
    if not _are_parts(parts) or not _are_doors(parts, doors):
        return False
    if not _hang_once(parts, doors) or not _keep_places(parts, doors):
        return False
    indices = list(range(len(parts)))
    return all([_is_right(parts[k], _sides_of_part(parts, doors, k)) for k in indices])


def _are_parts(value):
    """Whether the value can be the parts of a tree: all of them together make a web."""
    if not isinstance(value, tuple) or not all([_is_part(part) for part in value]):
        return False
    if not is_ascending([part[1] for part in value]):
        return False
    # No web has no places, or a tie twice.
    places = [place for part in value for place in part[1]]
    ties = [tie for part in value for tie in part[2]]
    return is_web_of(tuple(sorted(set(places))), tuple(sorted(ties)))


def _is_part(value):
    """Whether the value is a part, whatever its sides are."""
    if not isinstance(value, tuple) or len(value) != 3:
        return False
    return value[0] in ("ring", "bundle", "held") and is_web_of(value[1], value[2])


def _are_doors(parts, value):
    """Whether the value is an ascending tuple of doors between the parts, none between two of a kind."""
    if not isinstance(value, tuple) or not all([_is_door(parts, door) for door in value]):
        return False
    if any([parts[i][0] == parts[j][0] and parts[i][0] != "held" for _, i, j in value]):
        return False
    return is_ascending(value)


def _is_door(parts, value):
    """Whether the value is a door between two of the parts."""
    if not isinstance(value, tuple) or len(value) != 3:
        return False
    pair, i, j = value
    if not is_tie(pair) or not is_count(i) or not is_count(j) or not i < j < len(parts):
        return False
    return all([place in parts[k][1] for place in pair for k in (i, j)])


def _hang_once(parts, doors):
    """Whether just one way along doors leads from each part to each other one."""
    lots = linked_lots(len(parts), [(i, j) for _, i, j in doors])
    return len(lots) == 1 and len(doors) == len(parts) - 1


def _keep_places(parts, doors):
    """Whether the parts that have a place are joined by doors that have it.

    As the doors make a tree, those parts are joined if the doors are just one fewer.
    """
    for place in [one for part in parts for one in part[1]]:
        having = [part for part in parts if place in part[1]]
        through = [pair for pair, _, _ in doors if place in pair]
        if len(through) != len(having) - 1:
            return False
    return True


def _is_right(part, sides):
    """Whether a part has such sides as its kind asks for."""
    kind, places, _ = part
    if kind == "bundle":
        return len(places) == 2 and len(sides) >= 3
    if not is_web_of(places, sides):
        return False
    web = Web(places, sides)
    return is_held(web) if kind == "held" else is_one_ring(web)


def _sides_of_part(parts, doors, index):
    """The ascending tuple of the sides of a part, equal ones side by side."""
    pairs = [pair for pair, i, j in doors if index in (i, j)]
    return tuple(sorted(list(parts[index][2]) + pairs))


def _joined_web(parts):
    """The web with all places and all ties of the parts."""
    places = [place for part in parts for place in part[1]]
    return gathered_web(places, [tie for part in parts for tie in part[2]])


def _renamed_part(part, names):
    """A part with other names."""
    kind, places, ties = part
    pairs = [pair_of(names[a], names[b]) for a, b in ties]
    return (kind, tuple(sorted([names[place] for place in places])), tuple(sorted(pairs)))
