"""The errors of the package: one class for each kind of failure."""


class WebError(ValueError):
    """What a value that cannot be used is refused with."""


class InvalidPlace(WebError):
    """No name, or no name for a new place."""


class InvalidTie(WebError):
    """No tie, or no tie that can be put in or taken out."""


class InvalidWeb(WebError):
    """No web."""


class InvalidTable(WebError):
    """No table of the web."""


class InvalidDrawing(WebError):
    """No drawing."""


class InvalidRoute(WebError):
    """No route, or no ring."""


class InvalidRim(WebError):
    """No rim of the drawing."""


class InvalidBar(WebError):
    """No bar of the web."""


class InvalidParting(WebError):
    """No parting set of the web."""


class InvalidPart(WebError):
    """No block, no part, or no tree of parts."""


class InvalidFlip(WebError):
    """No flip of the drawing."""


class InvalidNoose(WebError):
    """No noose of the drawing."""


class InvalidCover(WebError):
    """No cover of the web."""


class InvalidOrder(WebError):
    """No order of the places."""


class InvalidEars(WebError):
    """No ears."""


class InvalidBeams(WebError):
    """No beams of the web."""


class InvalidTrees(WebError):
    """No three trees of the drawing."""


class InvalidCorners(WebError):
    """No corners."""


class InvalidPicture(WebError):
    """No picture of the web."""


class InvalidColours(WebError):
    """No colours, or no lists of numbers."""


class InvalidOperation(WebError):
    """Nothing that can be done with this value."""


class ParseError(WebError):
    """A line that cannot be read: its index, or None."""

    def __init__(self, number):
        self.number = number


class UnknownName(KeyError):
    """A value that was looked up and is no place."""

    def __init__(self, word):
        self.word = word


class Undrawn(LookupError):
    """A web without a drawing, and a bar of it."""

    def __init__(self, bar):
        self.bar = bar


class InvalidNumber(IndexError):
    """A value that is no number of the kind that is asked for."""

    def __init__(self, value):
        self.value = value


class NothingToUndo(RuntimeError):
    """More changes to take back, or to do again, than there are."""

    def __init__(self, many):
        self.many = many


class TooMany(OverflowError):
    """More than a limit."""

    def __init__(self, limit):
        self.limit = limit


class Refused(ArithmeticError):
    """A change that would break a pledge."""

    def __init__(self, pledge):
        self.pledge = pledge
