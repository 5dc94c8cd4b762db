"""The kin order of a table, its order paper, and the down lots of joined rows."""

from greatestback.behind import through
from greatestback.joins import check_joined
from greatestback.kin import is_kin_paper
from greatestback.lots import check_lot, numbers_within
from greatestback.ordertable import check_orders
from greatestback.primes import own_columns
from greatestback.tables import Table
from greatestback.unmade import first_rows, maker_numbers, unmade_factors, unmade_rows
from greatestback.wayback import check_way_back


def kin_order(table):
    """The kin order of the table: one thing for each unmade row."""
    things = order_things(table)
    return Table.of_lots([numbers_within(things, row) for row in things], len(things))


def order_things(table):
    """The list of the unmade rows; item i is the row for thing i."""
    check_way_back(table)
    return unmade_rows(table)


def order_paper(table):
    """The order paper: a kin paper for the table and its kin order."""
    own = [own_columns(table, row) for row in order_things(table)]
    left, right = unmade_factors(table)
    to_order = Table([[column in lot for lot in own] for column in range(table.width)], width=len(own))
    chosen = Table.of_lots([(row,) for row in first_rows(table)], table.height)
    return (to_order, right, chosen, left)


def down_of_row(table, lot):
    """The down lot of the joined row lot: the numbers of its makers."""
    check_joined(table, lot)
    check_way_back(table)
    return maker_numbers(table, lot)


def row_of_down(table, lot):
    """The join of the unmade rows with the numbers in lot."""
    right = unmade_factors(table)[1]
    check_lot(lot, right.height)
    check_way_back(table)
    return through(lot, right)


def is_kin_order(table, order, paper):
    """True if paper is a right kin paper for table and order."""
    check_orders([order])
    return is_kin_paper(table, order, paper)
