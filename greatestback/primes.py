"""Prime rows with their own columns, and bad rows."""

from greatestback.checks import is_number
from greatestback.joins import check_joined, is_joined
from greatestback.lots import check_lot, holds, is_lot, join_all, join_lots
from greatestback.unmade import is_unmade, unmade_rows


def own_columns(table, lot):
    """The lot of the column numbers that are own to lot: just the rows that hold lot have them."""
    check_lot(lot, table.width)
    lots = table.row_lots
    columns = range(table.width)
    return tuple([column for column in columns if all([(column in row) == holds(row, lot) for row in lots])])


def is_prime(table, value):
    """True if value is a prime row of the table."""
    return is_lot(value, table.width) and value in table.row_lots and own_columns(table, value) != ()


def prime_rows(table):
    """The list of the prime rows."""
    return [row for row in unmade_rows(table) if is_prime(table, row)]


def prime_paper(table, lot):
    """The pair of the prime row lot and its least own column, or None if lot is not prime."""
    check_joined(table, lot)
    return (lot, own_columns(table, lot)[0]) if is_prime(table, lot) else None


def is_prime_paper(table, paper):
    """True if paper is a prime paper for the table: a row and an own column of it."""
    if not isinstance(paper, tuple) or len(paper) != 2:
        return False
    row, column = paper
    if not is_lot(row, table.width) or not is_number(column, table.width):
        return False
    return row in table.row_lots and column in own_columns(table, row)


def bad_rows(table):
    """The list of the bad rows: the unmade rows that are not prime."""
    return [row for row in unmade_rows(table) if not is_prime(table, row)]


def bad_paper(table, lot):
    """The bad paper of lot, or None if lot is not a bad row."""
    check_lot(lot, table.width)
    if lot not in bad_rows(table):
        return None
    # For each number of a bad row, some row that does not hold it has that number: the join comes to hold it.
    rows = [row for row in table.row_lots if not holds(row, lot)]
    many = 1
    while not holds(join_all(rows[:many]), lot):
        many += 1
    return (lot, join_all(rows[:many - 1]), rows[many - 1])


def bad_row(table):
    """The bad paper of the first bad row in lot order, or None."""
    rows = bad_rows(table)
    return bad_paper(table, rows[0]) if rows else None


def is_bad_paper(table, paper):
    """True if paper is a bad paper for the table: an unmade row within the join of two, and within neither."""
    if not isinstance(paper, tuple) or len(paper) != 3:
        return False
    row, first, second = paper
    if not is_unmade(table, row) or not is_joined(table, first) or not is_joined(table, second):
        return False
    return holds(join_lots(first, second), row) and not holds(first, row) and not holds(second, row)
