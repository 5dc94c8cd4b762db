"""The errors: one base class, and one class for each kind of refusal.

They stand in the order in which they go before one another when several are due. They look at
nothing that they are given, so that making an error never fails.
"""


class GreatestbackError(ValueError):
    """The base class of all errors of the program."""


class BadText(GreatestbackError):
    """A text is not the written form of a value; line is its first wrong line, from 1."""

    def __init__(self, line):
        self.line = line


class BadName(GreatestbackError):
    """A value must be a name and is not."""

    def __init__(self, name):
        self.name = name


class BadEdit(GreatestbackError):
    """A value must be an edit and is not."""

    def __init__(self, edit):
        self.edit = edit


class BadTable(GreatestbackError):
    """Rows do not make a table; row is the number of the first bad row, or None."""

    def __init__(self, row):
        self.row = row


class BadPaper(GreatestbackError):
    """A value must be a right paper and is not."""

    def __init__(self, paper):
        self.paper = paper


class BadPlace(GreatestbackError):
    """A value must be an integer in a stated range, a cell or a placing, and is not."""

    def __init__(self, place):
        self.place = place


class BadLot(GreatestbackError):
    """A value must be a lot below a stated number and is not."""

    def __init__(self, lot):
        self.lot = lot


class NoName(GreatestbackError):
    """A name is not held."""

    def __init__(self, name):
        self.name = name


class NoFit(GreatestbackError):
    """An edit does not fit the table."""

    def __init__(self, edit):
        self.edit = edit


class UnlikeSizes(GreatestbackError):
    """Two tables do not fit each other; first and second are their sizes."""

    def __init__(self, first, second):
        self.first = first
        self.second = second


class NotSquare(GreatestbackError):
    """A table must have its height equal to its width; sides is the pair of both."""

    def __init__(self, sides):
        self.sides = sides


class NotOrder(GreatestbackError):
    """A table must be an order; fault is its order fault."""

    def __init__(self, fault):
        self.fault = fault


class NotJoined(GreatestbackError):
    """A lot must be a joined row of the table and is not."""

    def __init__(self, lot):
        self.lot = lot


class NotRectangular(GreatestbackError):
    """A table must be rectangular; fault is its rectangular fault."""

    def __init__(self, fault):
        self.fault = fault


class TooMany(GreatestbackError):
    """A count is greater than its limit."""

    def __init__(self, many, limit):
        self.many = many
        self.limit = limit


class NoWayBack(GreatestbackError):
    """Some table must lead back and none does; paper is a bad paper."""

    def __init__(self, paper):
        self.paper = paper
