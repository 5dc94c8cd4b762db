"""Unmade rows and columns, makers, unmet rows, and the core of a table."""

from greatestback.behind import turned
from greatestback.joins import crossing_back
from greatestback.lots import check_lot, holds, is_lot, join_all, numbers_within, sorted_lots
from greatestback.tables import Table


def unmade_rows(table):
    """The list of the unmade rows."""
    # What is within a joined row is joined of rows within it, so it is enough to look at the rows.
    lots = sorted_lots(table.row_lots)
    return [lot for lot in lots if _join_of_lower(lots, lot) != lot]


def _join_of_lower(lots, lot):
    return join_all([lower for lower in lots if lower != lot and holds(lot, lower)])


def unmade_columns(table):
    """The list of the unmade columns."""
    return unmade_rows(turned(table))


def is_unmade(table, value):
    """True if value is an unmade row of the table."""
    return is_lot(value, table.width) and value in unmade_rows(table)


def makers(table, lot):
    """The list of the makers of lot: the unmade rows within it."""
    rows = unmade_rows(table)
    return [rows[number] for number in maker_numbers(table, lot)]


def maker_numbers(table, lot):
    """The lot of the numbers of the makers of lot, in the list of the unmade rows."""
    check_lot(lot, table.width)
    return numbers_within(unmade_rows(table), lot)


def first_rows(table):
    """The list of the first rows of the unmade rows."""
    lots = table.row_lots
    return [lots.index(row) for row in unmade_rows(table)]


def first_columns(table):
    """The list of the first columns of the unmade columns."""
    return first_rows(turned(table))


def unmet_rows(table):
    """The list of the unmet rows."""
    # Each unmade column is the crossing of one unmet row alone, and crossing back gives that row.
    return sorted_lots([crossing_back(table, column) for column in unmade_columns(table)])


def core(table):
    """The table of the cells in a first row and in a first column."""
    columns = sorted(first_columns(table))
    rows = [[table[row, column] for column in columns] for row in sorted(first_rows(table))]
    return Table(rows, width=len(columns))


def unmade_factors(table):
    """The pair of tables (left, right): the rows of right are the unmade rows, and left then right is table."""
    unmade = unmade_rows(table)
    right = Table.of_lots(unmade, table.width)
    left = Table.of_lots([numbers_within(unmade, row) for row in table.row_lots], len(unmade))
    return (left, right)
