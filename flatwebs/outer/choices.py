"""Numbers for the places of a web, each one of a list, unlike for neighbours."""


def any_choice(web, lists):
    """Any choice of lists of all places, with ascending keys; None if there is none."""
    chosen = _choice_of(web, {place: lists[place] for place in web.places})
    return None if chosen is None else {place: chosen[place] for place in web.places}


def _choice_of(web, lists):
    """Any choice of these lists for the places that they have, None if there is none."""
    if not lists:
        return {}
    for place in lists:
        near = [one for one in web.neighbours(place) if one in lists]
        if len(near) < len(lists[place]):
            return _choice_later(web, lists, place, near)
    return _choice_first(web, lists)


def _choice_later(web, lists, place, near):
    """A choice in which a place with more numbers than neighbours is left for the end."""
    chosen = _choice_of(web, {one: lists[one] for one in lists if one != place})
    if chosen is None:
        return None
    taken = [chosen[one] for one in near]
    free = [number for number in lists[place] if number not in taken]
    return {**chosen, place: free[0]}


def _choice_first(web, lists):
    """A choice in which a place with the shortest list comes first, None if there is none."""
    place = min(list(lists), key=lambda one: len(lists[one]))
    near = web.neighbours(place)
    for number in lists[place]:
        rest = {one: _without(lists[one], number) if one in near else lists[one]
                for one in lists if one != place}
        chosen = _choice_of(web, rest)
        if chosen is not None:
            return {**chosen, place: number}
    return None


def _without(numbers, number):
    """The numbers but one."""
    return tuple([other for other in numbers if other != number])
