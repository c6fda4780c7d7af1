"""Webs: places, and ties between some two of them."""

from flatwebs.base.marks import full_mark, is_one_lot, lot_marks, marked, near_marks
from flatwebs.base.words import are_different, are_names, is_ascending, is_name, is_naming
from flatwebs.errors import (
    InvalidOperation, InvalidPlace, InvalidTie, InvalidWeb, ParseError, TooMany, UnknownName)

MAX_PLACES = 12
MAX_TIES = 40


class Web:
    """Places and ties. It never changes."""

    def __init__(self, places, ties):
        if not is_web_of(places, ties):
            raise InvalidWeb("there is no web with these places and ties")
        self._places = places
        self._ties = ties
        self._near = near_marks(places, ties)

    @classmethod
    def from_lines(cls, *lines):
        """The web with these lines, in any order."""
        told = []
        for index, line in enumerate(lines):
            words = _words_of(line)
            if words is None or words in told:
                raise ParseError(index)
            told.append(words)
        places = sorted({word for words in told for word in words[1:]})
        ties = sorted([words[1:] for words in told if words[0] == "tie"])
        return cls(tuple(places), tuple(ties))

    @classmethod
    def of_ties(cls, *ties):
        """The web with just these ties, in any order, and their places."""
        for index, tie in enumerate(ties):
            if not is_tie(tie) or tie in ties[:index]:
                raise InvalidTie("no tie, or one that is there twice")
        places = sorted({place for tie in ties for place in tie})
        return cls(tuple(places), tuple(sorted(ties)))

    @property
    def places(self):
        """The ascending tuple of the places."""
        return self._places

    @property
    def ties(self):
        """The ascending tuple of the ties."""
        return self._ties

    @property
    def lines(self):
        """The lines: places without ties, then ties."""
        alone = [f"place {place}" for place in self._places if not self.neighbours(place)]
        tied = [f"tie {a} {b}" for a, b in self._ties]
        return tuple(alone + tied)

    @property
    def lots(self):
        """The ascending tuple of the lots."""
        lots = lot_marks(self._near, full_mark(len(self._places)))
        return tuple([marked(self._places, lot) for lot in lots])

    @property
    def hangs(self):
        """Whether there is just one lot."""
        return is_one_lot(self._near, full_mark(len(self._places)))

    @property
    def is_block(self):
        """Whether three places or more hang together, also without any one of them."""
        many = len(self._places)
        whole = full_mark(many)
        return many >= 3 and self.hangs and all(
            [is_one_lot(self._near, whole ^ (1 << k)) for k in range(many)])

    def neighbours(self, place):
        """The ascending tuple of the neighbours of a place."""
        need_places(self, place)
        return marked(self._places, self._near[self._places.index(place)])

    def common(self, a, b):
        """The ascending tuple of the common neighbours of two places."""
        need_places(self, a, b)
        near = self.neighbours(b)
        return tuple([place for place in self.neighbours(a) if place in near])

    def is_tied(self, a, b):
        """Whether two places are tied."""
        need_places(self, a, b)
        return pair_of(a, b) in self._ties

    def with_tie(self, a, b):
        """The web with one tie more."""
        if self.is_tied(a, b) or a == b:
            raise InvalidTie("the places are equal, or tied already")
        if len(self._ties) == MAX_TIES:
            raise TooMany(MAX_TIES)
        return gathered_web(self._places, self._ties + (pair_of(a, b),))

    def without_tie(self, a, b):
        """The web with one tie less."""
        if not self.is_tied(a, b):
            raise InvalidTie("the places are not tied")
        gone = pair_of(a, b)
        return Web(self._places, tuple([tie for tie in self._ties if tie != gone]))

    def with_place(self, name):
        """The web with one place more, without ties."""
        if not is_name(name) or name in self._places:
            raise InvalidPlace("no name, or a place that is there already")
        if len(self._places) == MAX_PLACES:
            raise TooMany(MAX_PLACES)
        return gathered_web(self._places + (name,), self._ties)

    def without_places(self, places):
        """The web without some places and their ties."""
        if not isinstance(places, tuple):
            raise InvalidOperation("no tuple of places")
        for place in places:
            need_places(self, place)
        return web_on(self, tuple([place for place in self._places if place not in places]))

    def drawn_together(self, a, b):
        """The web with a tie drawn together to its end a."""
        if not self.is_tied(a, b):
            raise InvalidTie("the places are not tied")
        rest = self.without_places((b,))
        moved = [pair_of(a, place) for place in self.neighbours(b) if place != a]
        return gathered_web(rest.places, rest.ties + tuple(moved))

    def renamed(self, names):
        """The web with other names, by a dict from its places to different names."""
        if not is_naming(self._places, names):
            raise InvalidOperation("no dict from the places to different names")
        ties = [pair_of(names[a], names[b]) for a, b in self._ties]
        return gathered_web([names[place] for place in self._places], ties)

    def __add__(self, other):
        if not isinstance(other, Web):
            return NotImplemented
        return gathered_web(self._places + other.places, self._ties + other.ties)

    def __sub__(self, other):
        return self.without_places(other)

    def __invert__(self):
        ties = [pair for pair in all_pairs(self._places) if pair not in self._ties]
        if len(ties) > MAX_TIES:
            raise TooMany(MAX_TIES)
        return Web(self._places, tuple(ties))

    def __contains__(self, value):
        return value in self._places or value in self._ties

    def __len__(self):
        return len(self._places)

    def __iter__(self):
        return iter(self._ties)

    def __eq__(self, other):
        return isinstance(other, Web) and self._places == other._places and self._ties == other._ties

    def __str__(self):
        return f"web of {len(self._places)} places, {len(self._ties)} ties"


def full_web(places):
    """The web with these places, ascending, and all ties between them."""
    if not _are_places(places):
        raise InvalidWeb("no ascending tuple of one to twelve names")
    return Web(places, tuple(all_pairs(places)))


def ring_web(ring):
    """The web in which each place of a tuple is tied to the next one, once round."""
    if not are_different(ring, 3):
        raise InvalidWeb("no tuple of three or more different names")
    return gathered_web(ring, ties_round(ring))


def need_web(web):
    """Refuses what is no web."""
    if not isinstance(web, Web):
        raise InvalidWeb("no web")


def need_hanging(web):
    """Refuses what is no web, then a web that does not hang together."""
    need_web(web)
    if not web.hangs:
        raise InvalidOperation("the web does not hang together")


def need_block(web):
    """Refuses what is no web, then a web that is no block."""
    need_web(web)
    if not web.is_block:
        raise InvalidOperation("the web is no block")


def need_places(web, *names):
    """Refuses the first of these values that is no place of the web."""
    for name in names:
        if name not in web.places:
            raise UnknownName(name)


def need_tied(web, a, b):
    """Refuses what are no places of the web, then places that are not tied."""
    if not web.is_tied(a, b):
        raise InvalidTie("the places are not tied")


def gathered_web(places, ties):
    """The web with these places and ties, in any order, also told twice."""
    return Web(tuple(sorted(set(places))), tuple(sorted(set(ties))))


def web_on(web, places):
    """The web of some places of a web, ascending, and of all ties between them."""
    return Web(places, tuple([tie for tie in web.ties if tie[0] in places and tie[1] in places]))


def is_web_of(places, ties):
    """Whether these can be the places and the ties of a web."""
    return _are_places(places) and _are_ties(places, ties)


def are_ties_of(web, value):
    """Whether the value is an ascending tuple of ties of the web."""
    return isinstance(value, tuple) and all([tie in web.ties for tie in value]) and is_ascending(value)


def is_row_of(web, value, many):
    """Whether the value is an ascending tuple of so many places of the web."""
    if not are_names(value) or len(value) != many or not is_ascending(value):
        return False
    return all([place in web.places for place in value])


def is_tie(value):
    """Whether the value is a pair of names, ascending."""
    return are_different(value, 2) and len(value) == 2 and value[0] < value[1]


def pair_of(a, b):
    """The ascending pair of two names."""
    return (a, b) if a < b else (b, a)


def all_pairs(places):
    """All ascending pairs of ascending places, ascending."""
    return [(a, b) for k, a in enumerate(places) for b in places[k + 1:]]


def ties_along(row):
    """The ties between neighbours in a tuple of names, in its order."""
    return [pair_of(a, b) for a, b in zip(row, row[1:])]


def ties_round(ring):
    """The ties between neighbours in a tuple of names, the last and the first one being neighbours."""
    return ties_along(ring + ring[:1])


def _are_places(value):
    """Whether the value can be the places of a web."""
    return are_names(value) and 1 <= len(value) <= MAX_PLACES and is_ascending(value)


def _are_ties(places, value):
    """Whether the value can be the ties of a web with these places."""
    if not isinstance(value, tuple) or len(value) > MAX_TIES:
        return False
    if not all([is_tie(tie) and tie[0] in places and tie[1] in places for tie in value]):
        return False
    return is_ascending(value)


def _words_of(line):
    """The words of a line of a web, a tie with its less place first; None if it is no line."""
    words = line.split(" ") if isinstance(line, str) else []
    names = tuple(words[1:])
    if not are_different(names, 0):
        return None
    if words[:1] == ["place"] and len(names) == 1:
        return ("place",) + names
    if words[:1] == ["tie"] and len(names) == 2:
        return ("tie",) + pair_of(names[0], names[1])
    return None
