"""The greatest table under a table."""

from greatestback.behind import first_outside, is_inside, turned
from greatestback.checks import check_number
from greatestback.errors import UnlikeSizes
from greatestback.tables import Table


def is_crosswise(table, other):
    """True if other is crosswise to table."""
    return other.size == (table.width, table.height)


def check_crosswise(table, other):
    """Raise UnlikeSizes if other is not crosswise to table."""
    if not is_crosswise(table, other):
        raise UnlikeSizes(table.size, other.size)


def back_and_forth(table, other):
    """The table A X A, for A = table and X = other."""
    check_crosswise(table, other)
    return table * other * table


def is_under(table, other):
    """True if other is under table."""
    return is_inside(back_and_forth(table, other), table)


def greatest_under(table):
    """The greatest table under table."""
    across = turned(table)
    return ~(across * ~table * across)


def is_greatest_under(table, other):
    """True if other is the greatest table under table."""
    check_crosswise(table, other)
    return other == greatest_under(table)


def barring_cell(table, row, column):
    """The first cell of table that bars the cell (row, column) of the greatest table under it, or None."""
    check_number(row, table.width)
    check_number(column, table.height)
    lot = table.row_lots[column]
    # A yes in (row, column) would reach each cell (i, j) with a yes in (i, row) and in (column, j).
    reached = Table.of_lots([lot if cells[row] else () for cells in table], table.width)
    return first_outside(reached, table)
