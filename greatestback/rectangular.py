"""Rectangular tables: each two of their rows are equal or apart."""

from greatestback.behind import turned
from greatestback.checks import is_number_pair
from greatestback.errors import NotRectangular
from greatestback.greatest import back_and_forth
from greatestback.lots import meet_lots


def thrice(table):
    """The table, then the table turned over, then the table."""
    return back_and_forth(table, turned(table))


def _is_crossed(one, other):
    """True if the lots of two rows are neither equal nor apart."""
    return one != other and meet_lots(one, other) != ()


def rectangular_fault(table):
    """The first pair (i, l) with i < l of rows that are neither equal nor apart, or None."""
    lots = table.row_lots
    for high, lot in enumerate(lots):
        for low in range(high + 1, table.height):
            if _is_crossed(lot, lots[low]):
                return (high, low)
    return None


def is_rectangular(table):
    """True if the table is rectangular."""
    return rectangular_fault(table) is None


def is_rectangular_fault(table, paper):
    """True if paper is a pair (i, l) with i < l of rows that are neither equal nor apart."""
    if not is_number_pair(paper, (table.height, table.height)):
        return False
    lots = table.row_lots
    return paper[0] < paper[1] and _is_crossed(lots[paper[0]], lots[paper[1]])


def rectangles(table):
    """The list of the blocks (R, S): S is the lot of a row, not empty, and R has the rows with that lot."""
    fault = rectangular_fault(table)
    if fault is not None:
        raise NotRectangular(fault)
    lots = table.row_lots
    firsts = [lot for number, lot in enumerate(lots) if lot != () and lot not in lots[:number]]
    return [(_numbers_of(lots, lot), lot) for lot in firsts]


def _numbers_of(lots, wanted):
    return tuple([number for number, lot in enumerate(lots) if lot == wanted])
