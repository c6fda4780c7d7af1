"""Springs at rest: pictures in which each place is the mean of its neighbours."""

from flatwebs.base.drawings import Drawing, need_drawings
from flatwebs.base.webs import need_hanging, need_web, pair_of
from flatwebs.base.words import are_different, has_keys, is_fraction, is_integer, is_name, lowest
from flatwebs.errors import InvalidCorners, InvalidOperation, InvalidPicture, InvalidRim
from flatwebs.grid.ratios import added, solved, with_one_bottom
from flatwebs.grid.straight import are_clear, table_shown, turn_of
from flatwebs.tree.partings import is_held

MAX_STRENGTH = 100
MAX_CORNER = 1000


def is_point(value):
    """Whether the value is a pair of fractions."""
    return isinstance(value, tuple) and len(value) == 2 and is_fraction(value[0]) and is_fraction(value[1])


def is_picture(web, value):
    """Whether the value is a dict from just the places to points."""
    need_web(web)
    return has_keys(value, web.places) and _are_points(value)


def is_strengths(web, value):
    """Whether the value is a dict from just the ties to strengths."""
    need_web(web)
    if not has_keys(value, web.ties):
        return False
    return all([is_integer(value[tie]) and 1 <= value[tie] <= MAX_STRENGTH for tie in web.ties])


def is_corners(web, value):
    """Whether the value is a dict from some places, at least one, to pairs of small integers."""
    need_web(web)
    if not isinstance(value, dict) or not value:
        return False
    return all([place in web.places and _is_corner(value[place]) for place in value])


def rest_of(web, corners, *, strengths=None):
    """The picture that rests on the corners."""
    _need_rest(web, corners, strengths)
    return _resting(web, corners, _filled(web, strengths))


def is_rest(web, corners, value, *, strengths=None):
    """Whether the value is the picture that rests on the corners."""
    _need_rest(web, corners, strengths)
    return is_picture(web, value) and value == _resting(web, corners, _filled(web, strengths))


def energy(web, picture, *, strengths=None):
    """The sum of the squares of the lengths of all ties, each one times its strength."""
    _need_picture(web, picture)
    _need_strengths(web, strengths)
    pulls = _filled(web, strengths)
    spots, bottom = with_one_bottom(picture)
    total = 0
    for a, b in web.ties:
        x = spots[a][0] - spots[b][0]
        y = spots[a][1] - spots[b][1]
        total = total + pulls[(a, b)] * (x * x + y * y)
    return lowest(total, bottom * bottom)


def moved(web, picture, other):
    """The picture whose points are the sums of those of two pictures."""
    _need_picture(web, picture)
    _need_picture(web, other)
    points = {}
    for place in web.places:
        x, y = picture[place]
        v, w = other[place]
        points[place] = (added(x, v), added(y, w))
    return points


def is_flat(web, picture):
    """Whether all places have different points, and straight ties meet at common ends only."""
    _need_picture(web, picture)
    return _is_clear(web, picture)


def bend_of(picture, ring):
    """1 if each three places turn to the left, -1 if each three turn to the right, 0 otherwise."""
    _need_ring(picture, ring)
    spots, _ = with_one_bottom(picture)
    row = [spots[place] for place in ring]
    turns = []
    for i, one in enumerate(row):
        for j, other in enumerate(row[:i]):
            turns = turns + [turn_of(third, other, one) for third in row[:j]]
    for bend in (1, -1):
        if all([turn == bend for turn in turns]):
            return bend
    return 0


def double_area(picture, ring):
    """Twice the area of a ring of places, less than 0 if it runs clockwise."""
    _need_ring(picture, ring)
    spots, bottom = with_one_bottom(picture)
    total = 0
    for k, place in enumerate(ring):
        x, y = spots[ring[k - 1]]
        v, w = spots[place]
        total = total + x * w - y * v
    return lowest(total, bottom * bottom)


def drawing_shown(web, picture):
    """The drawing that a flat picture shows."""
    _need_picture(web, picture)
    need_hanging(web)
    if not _is_clear(web, picture):
        raise InvalidOperation("the picture is not flat")
    spots, _ = with_one_bottom(picture)
    return Drawing(web, table_shown(web, spots))


def rim_corners(drawing, rim):
    """The corners for a rim, on which it bends in one direction."""
    need_drawings(drawing)
    if rim not in drawing.rims or not are_different(rim, 3):
        raise InvalidRim("no rim of the drawing with three or more places, each one once")
    return {place: (rim.index(place), rim.index(place) ** 2) for place in sorted(rim)}


def springs(drawing, rim, *, strengths=None):
    """The picture that rests on the corners for a rim."""
    corners = rim_corners(drawing, rim)
    web = drawing.web
    _need_strengths(web, strengths)
    if not is_held(web):
        raise InvalidOperation("the web is not held")
    return _resting(web, corners, _filled(web, strengths))


def _are_points(value):
    """Whether all values of a dict are points."""
    return all([is_point(value[key]) for key in value])


def _is_corner(value):
    """Whether the value is a pair of small integers."""
    if not isinstance(value, tuple) or len(value) != 2:
        return False
    return all([is_integer(number) and -MAX_CORNER <= number <= MAX_CORNER for number in value])


def _need_strengths(web, strengths):
    """Refuses what is neither strengths of the web nor None."""
    if strengths is not None and not is_strengths(web, strengths):
        raise InvalidOperation("no strengths of the web")


def _need_picture(web, picture):
    """Refuses what is no web, then what is no picture of it."""
    if not is_picture(web, picture):
        raise InvalidPicture("no picture of the web")


def _need_rest(web, corners, strengths):
    """Refuses what no picture can rest on."""
    if not is_corners(web, corners):
        raise InvalidCorners("no corners of the web")
    _need_strengths(web, strengths)
    need_hanging(web)


def _need_ring(picture, ring):
    """Refuses what is no dict from names to points, then what is no ring of places of it."""
    if not isinstance(picture, dict) or not all([is_name(key) for key in picture]) or not _are_points(picture):
        raise InvalidPicture("no dict from names to points")
    if not are_different(ring, 3) or not all([place in picture for place in ring]):
        raise InvalidRim("no tuple of three or more different places of the picture")


def _filled(web, strengths):
    """The strengths, 1 for all ties if there are none."""
    return {tie: 1 for tie in web.ties} if strengths is None else strengths


def _is_clear(web, picture):
    """Whether a picture is flat."""
    spots, _ = with_one_bottom(picture)
    # A place without ties can lie on a tie: no straight tie ends there.
    return are_clear(web, spots, [place for place in web.places if web.neighbours(place)])


def _resting(web, corners, strengths):
    """The picture that rests on the corners, with strengths of all ties."""
    free = [place for place in web.places if place not in corners]
    found = solved([_equation(web, corners, strengths, free, place) for place in free])
    points = {}
    for place in web.places:
        if place in corners:
            x, y = corners[place]
            points[place] = ((x, 1), (y, 1))
        else:
            points[place] = found[free.index(place)]
    return points


def _equation(web, corners, strengths, free, place):
    """What a free place has to do with all free ones, and what its neighbours with corners add up to."""
    row = [0 for _ in free]
    sums = [0, 0]
    for one in web.neighbours(place):
        pull = strengths[pair_of(place, one)]
        row[free.index(place)] = row[free.index(place)] + pull
        if one in corners:
            sums = [sums[k] + pull * corners[one][k] for k in range(2)]
        else:
            row[free.index(one)] = -pull
    return row + sums
