"""A bench: a drawing of a block that changes, with pledges that hold throughout."""

from flatwebs.base.drawings import Drawing, need_block_drawn
from flatwebs.base.rings import from_least, turned_to
from flatwebs.base.webs import MAX_PLACES, gathered_web, need_places, need_tied, pair_of
from flatwebs.base.words import are_different, is_count, is_name
from flatwebs.draw.counted import drawing_at, flipped
from flatwebs.dye.colours import odd_place
from flatwebs.errors import (
    InvalidNumber, InvalidOperation, InvalidPlace, InvalidTie, NothingToUndo, Refused, TooMany)
from flatwebs.tree.partings import is_held

MAX_PLEDGES = 10

_PLAIN = ("held", "triangulated", "even", "outer")


def is_pledge(value):
    """Whether the value is a pledge, whatever the drawing."""
    if not isinstance(value, tuple) or not value:
        return False
    word, rest = value[0], value[1:]
    if word in _PLAIN:
        return rest == ()
    if word in ("least", "most"):
        return len(rest) == 1 and is_count(rest[0])
    if word == "rim":
        return len(rest) == 1 and are_different(rest[0], 3) and rest[0] == from_least(rest[0])
    return word == "tied" and len(rest) == 2 and are_different(rest, 2)


def split_at(drawing, place, name, first, last):
    """The drawing in which a new place takes a stretch of the round of a place."""
    need_block_drawn(drawing)
    web = drawing.web
    need_places(web, place)
    if not is_name(name) or name in web.places:
        raise InvalidPlace("no name, or a place that is there already")
    near = drawing.round_at(place)
    for one in (first, last):
        if one not in near:
            raise InvalidTie("no neighbour of the place")
    row = turned_to(near, first)
    many = row.index(last) + 1
    if many == len(row):
        raise InvalidOperation("the stretch has all neighbours")
    if len(web.places) == MAX_PLACES:
        raise TooMany(MAX_PLACES)
    # No drawing has so many ties that one more would be too many.
    table = drawing.table
    for one in row[:many]:
        table[one] = _exchanged(table[one], place, name)
    table[place] = (name,) + row[many:]
    table[name] = (place,) + row[:many]
    return _drawn_by(table)


def together_at(drawing, a, b):
    """The drawing in which two tied places are drawn together to the first one."""
    need_block_drawn(drawing)
    need_tied(drawing.web, a, b)
    common = drawing.web.common(a, b)
    # Within a rim of three places stands their third one, on the one side of the tie or on the other.
    rims = [drawing.rim_along(a, b), drawing.rim_along(b, a)]
    if not all([any([one in rim and len(rim) == 3 for rim in rims]) for one in common]):
        raise InvalidOperation("the two places cannot be drawn together")
    if not drawing.web.drawn_together(a, b).is_block:
        raise InvalidOperation("no block would be left")
    table = drawing.table
    rest = turned_to(table[a], b)[1:]
    more = [one for one in turned_to(table[b], a)[1:] if one not in common]
    for one in more:
        table[one] = _exchanged(table[one], b, a)
    for one in common:
        table[one] = tuple([other for other in table[one] if other != b])
    table[a] = rest + tuple(more)
    return _drawn_by({place: table[place] for place in table if place != b})


class Moment:
    """What a bench keeps between two changes: a drawing, and pledges that hold. It never changes."""

    def __init__(self, shown, asked):
        self.shown = shown
        self.asked = asked
        self.rows = shown.lines


class Trial:
    """A block of statements behind which a bench is as it was before."""

    def __init__(self, bench):
        self._bench = bench
        self._now = None
        self._past = ()
        self._later = ()

    def __enter__(self):
        self._now = self._bench._now
        self._past = self._bench._past
        self._later = self._bench._later
        return self._bench

    def __exit__(self, *told):
        self._bench._now = self._now
        self._bench._past = self._past
        self._bench._later = self._later


class Bench:
    """A drawing of a block that changes, pledges that hold, and the changes that can be taken back."""

    def __init__(self, drawing):
        need_block_drawn(drawing)
        self._now = Moment(drawing, ())
        self._past = ()
        self._later = ()

    @property
    def drawing(self):
        """The drawing."""
        return self._now.shown

    @property
    def web(self):
        """The web of the drawing."""
        return self._now.shown.web

    @property
    def pledges(self):
        """The tuple of the pledges, in the order of demands."""
        return self._now.asked

    @property
    def changes(self):
        """The number of the changes that can be taken back."""
        return len(self._past)

    def tie(self, a, b, rim):
        """Puts a tie into a rim."""
        return self._draw(self.drawing.tied_within(a, b, rim))

    def strike(self, a, b):
        """Takes a tie out."""
        drawing = self.drawing.without_tie(a, b)
        if not drawing.web.is_block:
            raise InvalidOperation("no block would be left")
        return self._draw(drawing)

    def split(self, place, name, first, last):
        """Splits a place by a stretch of its round."""
        return self._draw(split_at(self.drawing, place, name, first, last))

    def merge(self, a, b):
        """Draws two tied places together to the first one."""
        return self._draw(together_at(self.drawing, a, b))

    def rename(self, names):
        """Gives all places other names, in the pledges, too."""
        drawing = self.drawing.renamed(names)
        return self._change(drawing, tuple([_renamed_pledge(pledge, names) for pledge in self.pledges]))

    def turn(self):
        """Puts the mirror in the place of the drawing."""
        return self._draw(self.drawing.mirror)

    def flip(self, flip):
        """Puts the drawing behind a flip in the place of the drawing."""
        return self._draw(flipped(self.drawing, flip))

    def redraw(self, number):
        """Puts the drawing of the same web with a number in the place of the drawing."""
        return self._draw(drawing_at(self.web, number))

    def demand(self, pledge):
        """Asks for one pledge more."""
        if not is_pledge(pledge) or pledge in self.pledges:
            raise InvalidOperation("no pledge, or one that is there already")
        if len(self.pledges) == MAX_PLEDGES:
            raise TooMany(MAX_PLEDGES)
        return self._change(self.drawing, self.pledges + (pledge,))

    def waive(self, pledge):
        """Asks for a pledge no more."""
        if not self._has_pledge(pledge):
            raise InvalidOperation("the pledge is not there")
        return self._change(self.drawing, tuple([one for one in self.pledges if one != pledge]))

    def undo(self, *, many=1):
        """Takes back so many changes."""
        _need_many(many, self._past)
        row = self._past + (self._now,) + self._later
        return self._move(row, len(self._past) - many)

    def redo(self, *, many=1):
        """Does so many changes again that were taken back."""
        _need_many(many, self._later)
        row = self._past + (self._now,) + self._later
        return self._move(row, len(self._past) + many)

    def trial(self):
        """What a `with` statement enters, and behind which the bench is as it was."""
        return Trial(self)

    def during(self, call):
        """What a function returns that is called with the bench, which then is as it was."""
        with self.trial() as same:
            return call(same)

    def twin(self):
        """An independent copy, with all changes that can be taken back or done again."""
        twin = Bench(self.drawing)
        twin._now = self._now
        twin._past = self._past
        twin._later = self._later
        return twin

    def _has_pledge(self, value):
        """Whether the value is a pledge of the bench; True is no 1 in it."""
        return is_pledge(value) and value in self._now.asked

    def _draw(self, drawing):
        """Changes the drawing alone."""
        return self._change(drawing, self.pledges)

    def _change(self, drawing, pledges):
        """Makes a change, unless a pledge would not hold; the news."""
        for pledge in pledges:
            if not _does_hold(drawing, pledge):
                raise Refused(pledge)
        row = self._past + (self._now, Moment(drawing, pledges))
        return self._move(row, len(self._past) + 1)

    def _move(self, row, at):
        """Goes to the moment with an index in a row of moments that follow one another; the news."""
        before = self.drawing.rims
        self._past = row[:at]
        self._now = row[at]
        self._later = row[at + 1:]
        now = self.drawing.rims
        gone = [rim for rim in before if rim not in now]
        return (tuple(gone), tuple([rim for rim in now if rim not in before]))

    def __contains__(self, value):
        return value in self._now.rows or self._has_pledge(value)

    def __len__(self):
        return len(self._now.asked)

    def __iter__(self):
        return iter(self._now.rows)

    def __eq__(self, other):
        return isinstance(other, Bench) and self._now.shown == other._now.shown and self._now.asked == other._now.asked

    def __str__(self):
        return f"bench of {_counts_of(self._now.shown)}, {len(self._now.asked)} pledges"


def _counts_of(drawing):
    """How many places, ties and rims a drawing has, in words."""
    return f"{len(drawing.web.places)} places, {len(drawing.web.ties)} ties, {len(drawing.rims)} rims"


def _need_many(many, row):
    """Refuses what is no number of changes, then more of them than there are."""
    if not is_count(many):
        raise InvalidNumber(many)
    if many > len(row):
        raise NothingToUndo(many)


def _exchanged(near, old, new):
    """A round with another neighbour in the place of one, told from any one on."""
    return tuple([new if one == old else one for one in near])


def _drawn_by(table):
    """The drawing with these rounds, each one told from any neighbour on."""
    ties = [pair_of(place, one) for place in table for one in table[place]]
    return Drawing(gathered_web(list(table), ties), {place: from_least(table[place]) for place in table})


def _does_hold(drawing, pledge):
    """Whether a drawing keeps a pledge."""
    word = pledge[0]
    if word == "held":
        return is_held(drawing.web)
    if word == "triangulated":
        return drawing.is_triangulated
    if word == "even":
        return odd_place(drawing) is None
    if word == "outer":
        return any([len(rim) == len(drawing.web.places) for rim in drawing.rims])
    if word == "least":
        return len(drawing.rims) >= pledge[1]
    if word == "most":
        return len(drawing.rims) <= pledge[1]
    if word == "rim":
        return pledge[1] in drawing.rims
    return pair_of(pledge[1], pledge[2]) in drawing.web.ties


def _renamed_pledge(pledge, names):
    """A pledge with other names of its places."""
    if pledge[0] == "rim":
        return ("rim", from_least(tuple([names[place] for place in pledge[1]])))
    if pledge[0] == "tied":
        return ("tied", names[pledge[1]], names[pledge[2]])
    return pledge
