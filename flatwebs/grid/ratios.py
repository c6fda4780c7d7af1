"""Numbers with a common bottom, and what they come from: equations between whole numbers."""

from math import lcm

from flatwebs.base.words import lowest


def added(one, other):
    """The sum of two fractions."""
    return lowest(one[0] * other[1] + other[0] * one[1], one[1] * other[1])


def with_one_bottom(points):
    """The spots that points have if all their numbers are multiplied by one, and this number.

    The points are a dict to pairs of fractions.
    """
    bottom = 1
    for key in points:
        bottom = lcm(bottom, points[key][0][1], points[key][1][1])
    spots = {}
    for key in points:
        x, y = points[key]
        spots[key] = (x[0] * (bottom // x[1]), y[0] * (bottom // y[1]))
    return (spots, bottom)


def solved(rows):
    """The solutions of equations: a row for each unknown, with the numbers of all unknowns and then its sums.

    The solutions are rows of fractions, one for each sum. The number whose turn it is must never be 0.
    All divisions leave nothing.
    """
    many = len(rows)
    before = 1
    for k in range(many):
        turn = rows[k]
        rows = [row if i == k else _without_spot(row, turn, k, before) for i, row in enumerate(rows)]
        before = turn[k]
    return [tuple([lowest(number, before) for number in row[many:]]) for row in rows]


def _without_spot(row, turn, k, before):
    """A row in which the number with an index is taken away by means of the row whose turn it is."""
    return [(turn[k] * one - row[k] * other) // before for one, other in zip(row, turn)]
