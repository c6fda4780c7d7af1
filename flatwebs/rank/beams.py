"""Beams: places as level beams that see one another along uprights, and the drawing they tell."""

from flatwebs.base.drawings import Drawing, need_drawings
from flatwebs.base.rings import from_least
from flatwebs.base.webs import need_hanging, need_web
from flatwebs.base.words import MAX_FIGURES, is_count, is_name
from flatwebs.errors import InvalidBeams, InvalidOrder, ParseError
from flatwebs.rank.orders import is_tied_order

MAX_REACH = 1000


def is_beams(web, value):
    """Whether the value is beams of the web."""
    need_web(web)
    if not isinstance(value, tuple) or len(value) != 2:
        return False
    levels, uprights = value
    if not _are_rows(levels, 4) or not _are_rows(uprights, 3):
        return False
    if [level[0] for level in levels] != list(web.places):
        return False
    if [upright[:2] for upright in uprights] != list(web.ties):
        return False
    numbers = [number for level in levels for number in level[1:]] + [upright[2] for upright in uprights]
    if not all([is_count(number) and number <= MAX_REACH for number in numbers]):
        return False
    if len(set([level[1] for level in levels])) < len(levels) or any([level[2] > level[3] for level in levels]):
        return False
    return all([_is_clear(levels, upright) for upright in uprights])


def drawing_of_beams(web, beams):
    """The drawing that beams tell."""
    _need_beams(web, beams)
    need_hanging(web)
    return Drawing(web, _told_table(beams))


def beams_of(drawing, order):
    """Any beams of a drawing with the places of an order at the heights of their indices."""
    _need_order(drawing, order)
    web = drawing.web
    first = (order[0], order[-1])
    climbs = [(a, b) if order.index(a) < order.index(b) else (b, a) for a, b in web.ties]
    numbers = _numbered_rims(drawing, first, climbs)
    uprights = []
    for (a, b), (low, high) in zip(web.ties, climbs):
        uprights.append((a, b, numbers[drawing.rim_along(high, low)]))
    levels = []
    for place in web.places:
        spots = [x for a, b, x in uprights if place in (a, b)]
        levels.append((place, order.index(place), min(spots), max(spots)))
    return (tuple(levels), tuple(uprights))


def are_beams_of(drawing, order, value):
    """Whether the value is beams of a drawing with the places of an order at their heights."""
    _need_order(drawing, order)
    web = drawing.web
    if not is_beams(web, value) or [level[1] for level in value[0]] != [order.index(place) for place in web.places]:
        return False
    # No other upright is at 0, too: its beams would be in the way of this one, from the lowest to the highest.
    spots = [x for a, b, x in value[1] if order[0] in (a, b) and order[-1] in (a, b)]
    return spots == [0] and _told_table(value) == drawing.table


def mirrored_beams(web, beams):
    """The beams with left and right exchanged."""
    _need_beams(web, beams)
    levels, uprights = beams
    reach = max([level[3] for level in levels])
    turned = tuple([(place, height, reach - right, reach - left) for place, height, left, right in levels])
    return (turned, tuple([(a, b, reach - x) for a, b, x in uprights]))


def order_of_beams(web, beams):
    """The places by ascending heights."""
    _need_beams(web, beams)
    return tuple([level[0] for level in sorted(beams[0], key=lambda level: level[1])])


def beams_of_lines(web, *lines):
    """The beams with these lines, in any order."""
    need_web(web)
    levels = []
    uprights = []
    told = []
    for index, line in enumerate(lines):
        kind, names, numbers = _read_line(line)
        if not names or names in told:
            raise ParseError(index)
        told.append(names)
        if kind == "beam":
            levels.append(names + numbers)
        else:
            uprights.append(names + numbers)
    beams = (tuple(sorted(levels)), tuple(sorted(uprights)))
    _need_beams(web, beams)
    return beams


def lines_of_beams(web, beams):
    """The lines of beams."""
    _need_beams(web, beams)
    levels = [f"beam {place} {height} {left} {right}" for place, height, left, right in beams[0]]
    return tuple(levels + [f"upright {a} {b} {x}" for a, b, x in beams[1]])


def _need_beams(web, beams):
    """Refuses what is no web, then what are no beams of it."""
    if not is_beams(web, beams):
        raise InvalidBeams("no beams of the web")


def _need_order(drawing, order):
    """Refuses what is no drawing, then what is no order of its web with tied ends."""
    need_drawings(drawing)
    if not is_tied_order(drawing.web, order):
        raise InvalidOrder("no order of the web whose ends are tied")


def _are_rows(value, many):
    """Whether the value is a tuple of tuples with so many members each."""
    return isinstance(value, tuple) and all([isinstance(row, tuple) and len(row) == many for row in value])


def _is_clear(levels, upright):
    """Whether an upright stands on both its beams, and no other beam lies between them in its way."""
    a, b, x = upright
    low, high = sorted([level[1] for level in levels if level[0] in (a, b)])
    for place, height, left, right in levels:
        if (left <= x <= right) != (place in (a, b)) and low <= height <= high:
            return False
    return True


def _told_table(beams):
    """The table that beams tell."""
    levels, uprights = beams
    heights = {level[0]: level[1] for level in levels}
    table = {}
    for place in heights:
        spots = [(x, a if b == place else b) for a, b, x in uprights if place in (a, b)]
        above = sorted([spot for spot in spots if heights[spot[1]] > heights[place]])
        below = sorted([spot for spot in spots if heights[spot[1]] < heights[place]])
        table[place] = from_least(tuple([one for _, one in above[::-1] + below]))
    return table


def _numbered_rims(drawing, first, climbs):
    """For each rim a number above those of all rims to the left of it, across the ties that climb.

    The rim to the left of the first tie, which is also to the right of all, has the number 0.
    """
    outer = drawing.rim_along(first[1], first[0])
    numbers = {rim: 0 for rim in drawing.rims}
    crossed = [(drawing.rim_along(high, low), drawing.rim_along(low, high)) for low, high in climbs]
    for _ in drawing.rims:
        for left, right in crossed:
            if right != outer:
                numbers[right] = max(numbers[right], numbers[left] + 1)
    return numbers


def _read_line(line):
    """The word, the names and the numbers of a line of beams; no names if it is no line."""
    words = line.split(" ") if isinstance(line, str) else []
    kind = words[0] if words else ""
    many = 1 if kind == "beam" else 2
    names = tuple(words[1:many + 1])
    figures = words[many + 1:]
    if (kind, len(words)) not in (("beam", 5), ("upright", 4)) or not all([_is_number(word) for word in figures]):
        return ("", (), ())
    if not all([is_name(name) for name in names]) or many == 2 and not names[0] < names[1]:
        return ("", (), ())
    return (kind, names, tuple([int(word) for word in figures]))


def _is_number(word):
    """Whether a word is a number: at most sixty figures, the first one no 0 before others."""
    if not word.isascii() or not word.isdigit() or len(word) > MAX_FIGURES:
        return False
    return word == "0" or word[0] != "0"
