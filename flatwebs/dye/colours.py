"""Colours of the rims, places and ties of a drawing, and choices from lists of numbers."""

from flatwebs.base.drawings import need_block_drawn, need_drawings, steps_of
from flatwebs.base.webs import need_hanging, need_places, need_web, pair_of, ties_round
from flatwebs.base.words import has_keys, is_ascending, is_count, is_integer
from flatwebs.draw.bars import bar_of
from flatwebs.errors import InvalidColours, InvalidNumber, InvalidOperation, InvalidRim, InvalidTie, Undrawn
from flatwebs.outer.choices import any_choice

FOUR = 4
LIST = 5
MAX_LIST = 20

# As many integers as the other places of a rim need, two neighbours of which have one each.
_RIM_LIST = 3


def rim_colours(drawing):
    """The rim colours, None if there are none."""
    need_drawings(drawing)
    return None if _odd_places(drawing) else _coloured_rims(drawing)


def is_rim_colours(drawing, value):
    """Whether the value is the rim colours."""
    need_drawings(drawing)
    if not isinstance(value, tuple) or not all([is_integer(colour) for colour in value]):
        return False
    return value == rim_colours(drawing)


def odd_place(drawing):
    """Any place with an odd number of ties, None if there is none."""
    need_drawings(drawing)
    odd = _odd_places(drawing)
    return odd[0] if odd else None


def three_colours(drawing):
    """The three colours of a triangulated drawing, None if there are none."""
    _need_triangulated(drawing)
    if _odd_places(drawing):
        return None
    least = drawing.web.places[0]
    colours = {least: 0, drawing.web.neighbours(least)[0]: 1}
    while len(colours) < len(drawing.web.places):
        for rim in drawing.rims:
            plain = [place for place in rim if place not in colours]
            if len(plain) == 1:
                colours[plain[0]] = 3 - sum([colours[place] for place in rim if place in colours])
    return {place: colours[place] for place in drawing.web.places}


def is_three_colours(drawing, value):
    """Whether the value is the three colours, its keys in any order."""
    _need_triangulated(drawing)
    return _are_numbers(drawing.web.places, value) and value == three_colours(drawing)


def four_colours(web):
    """Any four colours, None if there are none."""
    need_hanging(web)
    return any_choice(web, {place: tuple(range(FOUR)) for place in web.places})


def is_four_colours(web, value):
    """Whether the value is four colours, its keys in any order."""
    need_web(web)
    if not _are_numbers(web.places, value) or not all([value[place] < FOUR for place in web.places]):
        return False
    return _are_unlike(web, value)


def is_dyes(drawing, value):
    """Whether the value is dyes, its keys in any order."""
    _need_triangulated(drawing)
    if not _are_numbers(drawing.web.ties, value):
        return False
    return all([sorted([value[tie] for tie in ties_round(rim)]) == [1, 2, 3] for rim in drawing.rims])


def dyes_of(drawing, colours):
    """The dyes to which four colours lead."""
    _need_triangulated(drawing)
    if not is_four_colours(drawing.web, colours):
        raise InvalidColours("no four colours")
    return {(a, b): colours[a] ^ colours[b] for a, b in drawing.web.ties}


def colours_by(drawing, dyes, place, number):
    """The four colours with this number at this place to which dyes lead."""
    if not is_dyes(drawing, dyes):
        raise InvalidColours("no dyes")
    web = drawing.web
    need_places(web, place)
    if not is_count(number) or number >= FOUR:
        raise InvalidNumber(number)
    colours = {place: number}
    found = [place]
    done = 0
    while done < len(found):
        here = found[done]
        for one in web.neighbours(here):
            if one not in colours:
                colours[one] = colours[here] ^ dyes[pair_of(here, one)]
                found.append(one)
        done += 1
    return {one: colours[one] for one in web.places}


def choice_by_rim(drawing, rim, a, b, lists):
    """Any choice, if two neighbours on a rim have one integer each, and all others have enough."""
    need_block_drawn(drawing)
    web = drawing.web
    if rim not in drawing.rims:
        raise InvalidRim("no rim of the drawing")
    need_places(web, a, b)
    _need_lists(web, lists)
    if (a, b) not in steps_of(rim) and (b, a) not in steps_of(rim):
        raise InvalidTie("the places do not stand next to one another on the rim")
    if len(lists[a]) != 1 or len(lists[b]) != 1 or lists[a] == lists[b]:
        raise InvalidOperation("the two places have no unlike lists of one integer each")
    for place in web.places:
        least = _RIM_LIST if place in rim else LIST
        if place not in (a, b) and len(lists[place]) < least:
            raise InvalidOperation("a list is too short")
    return any_choice(web, lists)


def choice_of(web, lists):
    """Any choice from lists of at least five integers, for a web that has a drawing."""
    _need_lists(web, lists)
    bar = bar_of(web)
    if bar is not None:
        raise Undrawn(bar)
    if any([len(lists[place]) < LIST for place in web.places]):
        raise InvalidOperation("a list is too short")
    return any_choice(web, lists)


def is_choice(web, lists, value):
    """Whether the value is a choice, its keys in any order."""
    _need_lists(web, lists)
    if not has_keys(value, web.places):
        return False
    if not all([is_integer(value[place]) and value[place] in lists[place] for place in web.places]):
        return False
    return _are_unlike(web, value)


def _need_triangulated(drawing):
    """Refuses what is no drawing, then a drawing that is not triangulated."""
    need_drawings(drawing)
    if not drawing.is_triangulated:
        raise InvalidOperation("the drawing is not triangulated")


def _need_lists(web, lists):
    """Refuses what is no web, then what are no lists of it."""
    need_web(web)
    if not has_keys(lists, web.places) or not all([_is_list(lists[place]) for place in web.places]):
        raise InvalidColours("no lists of the web")


def _is_list(value):
    """Whether the value is an ascending tuple of one to twenty integers."""
    if not isinstance(value, tuple) or not 1 <= len(value) <= MAX_LIST:
        return False
    return all([is_integer(number) for number in value]) and is_ascending(value)


def _are_numbers(keys, value):
    """Whether the value is a dict from just these keys to integers of at least 0."""
    return has_keys(value, keys) and all([is_count(value[key]) for key in keys])


def _are_unlike(web, value):
    """Whether tied places have unlike numbers."""
    return all([value[a] != value[b] for a, b in web.ties])


def _odd_places(drawing):
    """The places with an odd number of ties."""
    return [place for place in drawing.web.places if len(drawing.round_at(place)) % 2 == 1]


def _coloured_rims(drawing):
    """The rim colours of a drawing in which each place has an even number of ties."""
    found = [drawing.rims[0]]
    colours = {found[0]: 0}
    done = 0
    while done < len(found):
        here = found[done]
        for a, b in steps_of(here):
            beyond = drawing.rim_along(b, a)
            if beyond not in colours:
                colours[beyond] = 1 - colours[here]
                found.append(beyond)
        done += 1
    return tuple([colours[rim] for rim in drawing.rims])
