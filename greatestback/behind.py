"""Tables put one behind another, powers, lots put through tables, and tables inside tables."""

from greatestback.checks import check_number
from greatestback.lots import check_lot, join_all, meet_lots
from greatestback.tables import Table, check_behind, check_same_size, check_square

MOST_POWER = 64


def then(first, second):
    """first then second."""
    return first * second


def middles(first, second, row, column):
    """The lot of the middles of the cell (row, column) of first then second."""
    check_number(row, first.height)
    check_number(column, second.width)
    check_behind(first, second)
    return meet_lots(first.row_lots[row], second.column_lots[column])


def then_all(tables):
    """One to eight tables put one behind another from left to right."""
    # All sizes are looked at first: an error must tell sizes of passed tables, not of a product.
    for first, second in zip(tables, tables[1:]):
        check_behind(first, second)
    result = tables[0]
    for table in tables[1:]:
        result = result * table
    return result


def power(table, exponent):
    """That power of the table."""
    check_number(exponent, MOST_POWER + 1)
    check_square(table)
    result = Table.same(table.height)
    for _ in range(exponent):
        result = result * table
    return result


def through(lot, table):
    """The join of the rows of table whose numbers are in lot."""
    check_lot(lot, table.height)
    lots = table.row_lots
    return join_all([lots[number] for number in lot])


def turned(table):
    """The table turned over."""
    return Table(table.columns, width=table.height)


def opposite(table):
    """The table that is yes exactly where table is no."""
    return ~table


def is_inside(first, second):
    """True if first is inside second."""
    return first_outside(first, second) is None


def first_outside(first, second):
    """The first cell that is yes in first and no in second, or None."""
    check_same_size(first, second)
    for row, cells in enumerate(first):
        for column, cell in enumerate(cells):
            if cell and not second[row, column]:
                return (row, column)
    return None
