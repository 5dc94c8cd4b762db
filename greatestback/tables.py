"""Tables of yes and no, with at most six rows and at most six columns."""

from greatestback.checks import check_number, is_number, is_number_pair
from greatestback.errors import BadPlace, BadTable, NotSquare, UnlikeSizes
from greatestback.lots import SIDE, check_lot


def row_line(row):
    """The line of a row: one character for each cell, x for yes and . for no."""
    return "".join(["x" if cell else "." for cell in row])


def check_behind(first, second):
    """Raise UnlikeSizes if the width of first is not the height of second."""
    if first.width != second.height:
        raise UnlikeSizes(first.size, second.size)


def check_same_size(first, second):
    """Raise UnlikeSizes if the sizes of the two tables differ."""
    if first.size != second.size:
        raise UnlikeSizes(first.size, second.size)


def check_square(table):
    """Raise NotSquare if the height of the table is not its width."""
    if table.height != table.width:
        raise NotSquare(table.size)


def _is_short(value):
    return isinstance(value, (list, tuple)) and len(value) <= SIDE


def _is_row(value, width):
    return _is_short(value) and len(value) == width and all([isinstance(cell, bool) for cell in value])


def _width_of(rows, width):
    """The width that each row must have. Raises BadTable(None) for rows and width."""
    if not _is_short(rows):
        raise BadTable(None)
    if width is None:
        # A row 0 that is no row has no width. Whatever stands for it, that row is the first bad one.
        return len(rows[0]) if rows and _is_short(rows[0]) else 0
    if not is_number(width, SIDE + 1):
        raise BadTable(None)
    return width


def _lot_of_cells(cells):
    return tuple([number for number, cell in enumerate(cells) if cell])


def _have_middle(row, column):
    return any([left and right for left, right in zip(row, column)])


class Table:
    """A table. It is never changed."""

    def __init__(self, rows, *, width=None):
        needed = _width_of(rows, width)
        for number, row in enumerate(rows):
            if not _is_row(row, needed):
                raise BadTable(number)
        self._cells = tuple([tuple(row) for row in rows])
        self._width = needed

    @staticmethod
    def filled(height, width, *, yes=False):
        """A table in which every cell is yes, a bool."""
        check_number(height, SIDE + 1)
        check_number(width, SIDE + 1)
        return Table([[yes] * width] * height, width=width)

    @staticmethod
    def same(side):
        """The same table of that side: yes in exactly the cells (i, i)."""
        check_number(side, SIDE + 1)
        return Table([[row == column for column in range(side)] for row in range(side)])

    @staticmethod
    def of_lots(lots, width):
        """The table of that width whose rows have the lots in lots, in that sequence."""
        if len(lots) > SIDE:
            raise BadTable(None)
        check_number(width, SIDE + 1)
        for lot in lots:
            check_lot(lot, width)
        return Table([[number in lot for number in range(width)] for lot in lots], width=width)

    @property
    def height(self):
        """The count of rows."""
        return len(self._cells)

    @property
    def width(self):
        """The count of columns."""
        return self._width

    @property
    def size(self):
        """The pair (height, width)."""
        return (self.height, self.width)

    @property
    def many_yes(self):
        """The count of yes cells."""
        return sum([row.count(True) for row in self._cells])

    @property
    def rows(self):
        """A new list with one list of bools for each row."""
        return [list(row) for row in self._cells]

    @property
    def columns(self):
        """A new list with one list of bools for each column."""
        return [[row[number] for row in self._cells] for number in range(self._width)]

    @property
    def row_lots(self):
        """The list of the lots of the rows, from row 0."""
        return [_lot_of_cells(row) for row in self._cells]

    @property
    def column_lots(self):
        """The list of the lots of the columns, from column 0."""
        return [_lot_of_cells(column) for column in self.columns]

    def __getitem__(self, at):
        if not is_number_pair(at, self.size):
            raise BadPlace(at)
        return self._cells[at[0]][at[1]]

    def __iter__(self):
        return iter(self._cells)

    def __eq__(self, other):
        return isinstance(other, Table) and self._width == other._width and self._cells == other._cells

    def __ne__(self, other):
        return not self == other

    def __mul__(self, other):
        check_behind(self, other)
        columns = other.columns
        rows = [[_have_middle(row, column) for column in columns] for row in self._cells]
        return Table(rows, width=other.width)

    def __or__(self, other):
        check_same_size(self, other)
        rows = [[one or two for one, two in zip(row, added)] for row, added in zip(self._cells, other._cells)]
        return Table(rows, width=self._width)

    def __and__(self, other):
        check_same_size(self, other)
        rows = [[one and two for one, two in zip(row, added)] for row, added in zip(self._cells, other._cells)]
        return Table(rows, width=self._width)

    def __invert__(self):
        return Table([[not cell for cell in row] for row in self._cells], width=self._width)

    def __str__(self):
        lines = [row_line(row) for row in self._cells]
        return "\n".join([f"{self.height} by {self.width}"] + lines)
