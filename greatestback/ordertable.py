"""Orders as tables, their down lots and up lots, and sums of two orders."""

from greatestback.behind import power, through
from greatestback.checks import check_many, check_number, is_number_pair
from greatestback.errors import BadPlace, NotOrder
from greatestback.joins import joined_columns, joined_rows
from greatestback.lots import SIDE, check_lot, is_lot
from greatestback.tables import Table, check_square


def is_order(table):
    """True if the table is an order."""
    return table.height == table.width and _fault_of(table) is None


def order_fault(table):
    """The order fault of a square table, or None if it is an order."""
    check_square(table)
    return _fault_of(table)


def _fault_of(table):
    lots = table.row_lots
    for thing, lot in enumerate(lots):
        if thing not in lot:
            return ("self", thing)
    for one, lot in enumerate(lots):
        for other in lot:
            if one < other and one in lots[other]:
                return ("both", one, other)
    return _through_fault(lots)


def _through_fault(lots):
    for high, lot in enumerate(lots):
        for middle in lot:
            for low in lots[middle]:
                if low not in lot:
                    return ("through", high, middle, low)
    return None


def check_orders(orders):
    """Raise NotSquare for the first table that is not square, or else NotOrder for the first that is no order."""
    for table in orders:
        check_square(table)
    for table in orders:
        fault = _fault_of(table)
        if fault is not None:
            raise NotOrder(fault)


def order_of_pairs(many, pairs):
    """The order of many things in which each pair (i, j) puts thing j below thing i."""
    check_number(many, SIDE + 1)
    for pair in pairs:
        if not is_number_pair(pair, (many, many)):
            raise BadPlace(pair)
    things = range(many)
    steps = Table([[one == other or (one, other) in pairs for other in things] for one in things])
    # A step may stay where it is, so a power has what is reached in that many pairs or fewer.
    order = power(steps, many)
    check_orders([order])
    return order


def direct_pairs(order):
    """The list of the pairs (i, j) with thing j directly below thing i."""
    check_orders([order])
    below = order & ~Table.same(order.height)
    direct = below & ~(below * below)
    return [(high, low) for high, lot in enumerate(direct.row_lots) for low in lot]


def down_lots(order):
    """The list of all down lots of the order."""
    check_orders([order])
    return joined_rows(order)


def up_lots(order):
    """The list of all up lots of the order."""
    check_orders([order])
    return joined_columns(order)


def is_down_lot(order, value):
    """True if value is a down lot of the order."""
    check_orders([order])
    return is_lot(value, order.height) and through(value, order) == value


def down_of(order, lot):
    """The least down lot of the order that holds lot."""
    check_lot(lot, order.height)
    check_orders([order])
    return through(lot, order)


def beside(order, other):
    """The order in which no thing of one of the two is below a thing of the other one."""
    check_orders([order, other])
    return _sum_of(order, other, ())


def upon(order, other):
    """The order in which each thing of other is below each thing of order."""
    check_orders([order, other])
    return _sum_of(other, order, tuple(range(other.height)))


def _sum_of(first, second, below):
    """The order of the things of first and then those of second, with the lot below under each thing of second."""
    shift = first.height
    many = shift + second.height
    check_many(many, SIDE)
    shifted = [below + tuple([shift + number for number in lot]) for lot in second.row_lots]
    return Table.of_lots(first.row_lots + shifted, many)
