"""Names, integers and fractions: the words of which all else is made."""

from math import gcd

from flatwebs.errors import InvalidNumber, InvalidPlace

MAX_LETTERS = 8
MAX_FIGURES = 60

# The least number with more than MAX_FIGURES digits.
_BOUND = 10 ** 60


def is_integer(value):
    """Whether the value is an integer of at most sixty digits."""
    return _is_whole(value) and -_BOUND < value < _BOUND


def is_count(value):
    """Whether the value is an integer of at most sixty digits, and at least 0."""
    return is_integer(value) and value >= 0


def is_name(value):
    """Whether the value is a name: one to eight letters a to z."""
    if not isinstance(value, str) or not 1 <= len(value) <= MAX_LETTERS:
        return False
    return value.isascii() and value.isalpha() and value.islower()


def are_names(value):
    """Whether the value is a tuple of names, which can come twice."""
    return isinstance(value, tuple) and all([is_name(word) for word in value])


def are_different(value, least):
    """Whether the value is a tuple of at least so many names, all different."""
    return are_names(value) and len(value) >= least and len(set(value)) == len(value)


def is_ascending(row):
    """Whether each value of a tuple is less than the next one."""
    return all([one < other for one, other in zip(row, row[1:])])


def has_keys(value, names):
    """Whether the value is a dict whose keys are just these names."""
    if not isinstance(value, dict):
        return False
    return all([key in names for key in value]) and all([name in value for name in names])


def is_naming(names, value):
    """Whether the value is a dict from just these names to different names."""
    if not are_names(names):
        raise InvalidPlace("no tuple of names")
    return has_keys(value, names) and are_different(tuple(value.values()), 0)


def is_fraction(value):
    """Whether the value is a fraction in lowest terms, with a bottom above 0."""
    if not isinstance(value, tuple) or len(value) != 2:
        return False
    top, bottom = value
    return _is_whole(top) and _is_whole(bottom) and bottom >= 1 and gcd(top, bottom) == 1


def fraction(top, bottom):
    """The fraction with the value of top / bottom."""
    if not is_integer(top):
        raise InvalidNumber(top)
    if not is_integer(bottom) or bottom == 0:
        raise InvalidNumber(bottom)
    return lowest(top, bottom)


def lowest(top, bottom):
    """The fraction with the value of top / bottom, which are of any length, the bottom not 0."""
    divisor = gcd(top, bottom)
    if bottom < 0:
        divisor = -divisor
    return (top // divisor, bottom // divisor)


def _is_whole(value):
    """Whether the value is an integer, of any length."""
    return isinstance(value, int) and not isinstance(value, bool)
