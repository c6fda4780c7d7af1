"""Tables of turns, and the drawings that they tell."""

from flatwebs.base.rings import from_least
from flatwebs.base.webs import Web, need_block, need_places, need_tied, need_web, pair_of
from flatwebs.base.words import are_different, are_names, has_keys
from flatwebs.errors import (
    InvalidDrawing, InvalidOperation, InvalidRim, InvalidTable, InvalidWeb, ParseError)


def is_table(web, value):
    """Whether the value is a table of the web."""
    need_web(web)
    if not has_keys(value, web.places):
        return False
    return all([_is_round(web.neighbours(place), value[place]) for place in web.places])


def rims_of(web, table):
    """The ascending tuple of the rims of a table."""
    _need_table(web, table)
    if not web.hangs:
        raise InvalidOperation("the web does not hang together")
    return _walked_rims(table)


def lack_of(web, table):
    """By how many rims a table misses being a drawing."""
    return _lack(web, rims_of(web, table))


def is_drawing(web, value):
    """Whether the value is a table of the web, and a drawing."""
    return is_table(web, value) and web.hangs and _lack(web, _walked_rims(value)) == 0


class Drawing:
    """A web with a drawing of it. It never changes."""

    def __init__(self, web, table):
        _need_table(web, table)
        if not web.hangs:
            raise InvalidDrawing("the web does not hang together")
        rims = _walked_rims(table)
        if _lack(web, rims) != 0:
            raise InvalidDrawing("the table has fewer rims than a drawing")
        self._web = web
        self._table = {place: table[place] for place in web.places}
        self._rims = rims
        self._along = {step: rim for rim in rims for step in steps_of(rim)}

    @classmethod
    def from_lines(cls, *lines):
        """The drawing with these lines, in any order."""
        table = {}
        for index, line in enumerate(lines):
            words = _words_of(line)
            if not words or words[0] in table:
                raise ParseError(index)
            table[words[0]] = words[1:]
        return cls(_told_web(table), table)

    @classmethod
    def from_rims(cls, *rims):
        """The drawing whose rims these are, in any order, each one told from any place on."""
        behind = _behind_by(rims)
        table = {place: _told_round(behind[place]) for place in behind}
        if not all([table[place] for place in table]):
            raise InvalidDrawing("these are not the rims of a drawing")
        try:
            web = _told_web(table)
        except InvalidWeb:
            raise InvalidDrawing("no web has the places and ties of these rims") from None
        return cls(web, table)

    @property
    def web(self):
        """The web that is drawn."""
        return self._web

    @property
    def table(self):
        """The dict from the places to their rounds."""
        return dict(self._table)

    @property
    def rims(self):
        """The ascending tuple of the rims."""
        return self._rims

    @property
    def lines(self):
        """The lines, by ascending places."""
        return tuple([" ".join([f"{place}:", *self._table[place]]) for place in self._table])

    @property
    def mirror(self):
        """The drawing with all rounds backward."""
        table = {place: from_least(self._table[place][::-1]) for place in self._table}
        return Drawing(self._web, table)

    def round_at(self, place):
        """The round of a place."""
        need_places(self._web, place)
        return self._table[place]

    def behind(self, place, neighbour):
        """The neighbour of a place behind a neighbour."""
        need_tied(self._web, place, neighbour)
        near = self._table[place]
        return near[(near.index(neighbour) + 1) % len(near)]

    def rim_along(self, place, neighbour):
        """The rim on which one goes from a place to a neighbour."""
        need_tied(self._web, place, neighbour)
        return self._along[(place, neighbour)]

    def rims_round(self, place):
        """For each neighbour in the round, the rim on which one comes from it to the place."""
        near = self.round_at(place)
        return tuple([self.rim_along(one, place) for one in near]) if near else ((),)

    @property
    def is_triangulated(self):
        """Whether there are three places or more, and all rims have three places."""
        return len(self._web) >= 3 and all([len(rim) == 3 for rim in self._rims])

    def renamed(self, names):
        """The drawing with other names, by a dict from its places to different names."""
        web = self._web.renamed(names)
        table = {}
        for place in self._table:
            table[names[place]] = from_least(tuple([names[one] for one in self._table[place]]))
        return Drawing(web, table)

    def tied_within(self, a, b, rim):
        """The drawing with a tie more within a rim."""
        if not self._web.is_block:
            raise InvalidOperation("the web is no block")
        need_places(self._web, a, b)
        if rim not in self._rims or a not in rim or b not in rim:
            raise InvalidRim("no rim of the drawing that has both places")
        web = self._web.with_tie(a, b)
        table = dict(self._table)
        table[a] = _with_turn(table[a], rim[rim.index(a) - 1], b)
        table[b] = _with_turn(table[b], rim[rim.index(b) - 1], a)
        return Drawing(web, table)

    def without_tie(self, a, b):
        """The drawing with a tie less."""
        web = self._web.without_tie(a, b)
        if not web.hangs:
            raise InvalidOperation("the web does not hang together without the tie")
        table = dict(self._table)
        table[a] = from_least(tuple([place for place in table[a] if place != b]))
        table[b] = from_least(tuple([place for place in table[b] if place != a]))
        return Drawing(web, table)

    def __contains__(self, value):
        return value in self._rims

    def __len__(self):
        return len(self._rims)

    def __iter__(self):
        return iter(self._rims)

    def __eq__(self, other):
        return isinstance(other, Drawing) and self._web == other._web and self._table == other._table

    def __str__(self):
        return f"drawing of {len(self._web.places)} places, {len(self._web.ties)} ties, {len(self._rims)} rims"


def need_drawings(*values):
    """Refuses what is no drawing."""
    for value in values:
        if not isinstance(value, Drawing):
            raise InvalidDrawing("no drawing")


def need_block_drawn(*drawings):
    """Refuses what is no drawing, then a drawing of a web that is no block."""
    need_drawings(*drawings)
    for drawing in drawings:
        need_block(drawing.web)


def steps_of(rim):
    """The ties that are walked on a rim, each one in its direction."""
    return list(zip(rim, rim[1:] + rim[:1]))


def _need_table(web, table):
    """Refuses what is no web, then what is no table of it."""
    if not is_table(web, table):
        raise InvalidTable("no table of the web")


def _is_round(near, value):
    """Whether the value is a round of a place with these neighbours, ascending."""
    if not isinstance(value, tuple) or len(value) != len(near):
        return False
    return value[:1] == near[:1] and all([place in value for place in near])


def _lack(web, rims):
    """The number 2, less the places, plus the ties, less the rims."""
    return 2 - len(web.places) + len(web.ties) - len(rims)


def _walked_rims(table):
    """The ascending tuple of the rims of a table of a web that hangs together."""
    onward = {}
    for place in table:
        for before, behind in steps_of(table[place]):
            onward[(before, place)] = behind
    done = {}
    rims = []
    for start in onward:
        if start not in done:
            rim = ()
            a, b = start
            while (a, b) not in done:
                done[(a, b)] = True
                rim = rim + (a,)
                a, b = b, onward[(a, b)]
            rims.append(from_least(rim))
    return tuple(sorted(rims)) if rims else ((),)


def _with_turn(near, before, place):
    """The round with one neighbour more, just behind another one."""
    at = near.index(before) + 1
    return from_least(near[:at] + (place,) + near[at:])


def _words_of(line):
    """The place and then its round, as one tuple, that a line tells; () if it is no line."""
    if not isinstance(line, str):
        return ()
    words = line.split(" ")
    told = (words[0][:-1],) + tuple(words[1:])
    if words[0][-1:] != ":" or not are_different(told, 1):
        return ()
    return told if told[1:2] == tuple(sorted(told[1:])[:1]) else ()


def _told_web(table):
    """The web with these places, tied if one is in the round of the other one."""
    ties = {}
    for place in table:
        for one in table[place]:
            ties[pair_of(place, one)] = True
    return Web(tuple(sorted(table)), tuple(sorted(ties)))


def _behind_by(rims):
    """For each place, where one goes on who comes from a neighbour, as these rims tell.

    An empty dict if one of them is no rim, or if they tell a tie twice in one direction.
    """
    behind = {}
    for rim in rims:
        if not are_names(rim) or not rim:
            return {}
        for k, place in enumerate(rim):
            steps = behind.setdefault(place, {})
            if rim[k - 1] in steps:
                return {}
            steps[rim[k - 1]] = rim[(k + 1) % len(rim)]
    return behind


def _told_round(steps):
    """The round in which each neighbour has this one behind it, () if there is none."""
    first = min(list(steps))
    near = [first]
    while steps.get(near[-1]) not in (None, first):
        near.append(steps[near[-1]])
    closed = steps.get(near[-1]) == first
    return tuple(near) if closed and len(near) == len(steps) else ()
