"""Joined rows and columns, inner rows, and crossings."""

from greatestback.behind import through, turned
from greatestback.checks import check_number
from greatestback.errors import NotJoined
from greatestback.lots import check_lot, is_lot, join_all, join_lots, numbers_within, sorted_lots


def joined_rows(table):
    """The list of all joined rows."""
    return _all_joins(table.row_lots)


def joined_columns(table):
    """The list of all joined columns."""
    return _all_joins(table.column_lots)


def _all_joins(lots):
    joins = [()]
    for lot in lots:
        # Repeats are left out at each lot, so the list never has more than twice 64 lots.
        joins = sorted_lots(joins + [join_lots(join, lot) for join in joins])
    return joins


def is_joined(table, value):
    """True if value is a joined row of the table."""
    return is_lot(value, table.width) and inner(table, value) == value


def check_joined(table, lot):
    """Raise BadLot if lot is not a lot below the width of the table, or else NotJoined if it is not joined."""
    check_lot(lot, table.width)
    if not is_joined(table, lot):
        raise NotJoined(lot)


def rows_within(table, lot):
    """The lot of the numbers of the rows that are within lot."""
    check_lot(lot, table.width)
    return numbers_within(table.row_lots, lot)


def inner(table, lot):
    """The inner row of lot: the join of the rows that are within it."""
    return through(rows_within(table, lot), table)


def greatest_without(table, column):
    """The join of the rows that do not have column."""
    check_number(column, table.width)
    return join_all([row for row in table.row_lots if column not in row])


def crossing(table, lot):
    """The lot of the numbers of the rows that are not within lot."""
    within = rows_within(table, lot)
    return tuple([number for number in range(table.height) if number not in within])


def crossing_back(table, lot):
    """The lot of the numbers of the columns that are not within lot, a lot below the height."""
    return crossing(turned(table), lot)
