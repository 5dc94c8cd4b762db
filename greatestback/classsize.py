"""The class of a table: the tables that have the same joins."""

from greatestback.checks import check_many
from greatestback.edits import place_rows
from greatestback.joins import joined_columns, joined_rows
from greatestback.kinorder import kin_order
from greatestback.likenesses import LIKENESS_LIMIT, likenesses
from greatestback.unmade import first_rows, unmade_factors, unmade_rows
from greatestback.wayback import TRY_CELLS, all_tables, check_cells, check_way_back


def same_joins(first, second):
    """True if the two tables have the same joins."""
    return _joins_of(first) == _joins_of(second)


def _joins_of(table):
    """What two tables must both have in order to have the same joins."""
    return (table.size, joined_rows(table), joined_columns(table))


def class_tables(table):
    """The list of the tables of the class, in the order of the likenesses of the kin order."""
    found = _class_likenesses(table)
    left, right = unmade_factors(table)
    # Left then right is the table; a likeness puts the unmade row placing[j] where unmade row j was.
    return [left * place_rows(right, placing) for placing in found]


def _class_likenesses(table):
    """The likenesses of the kin order: one for each table of the class."""
    # Too many unmade rows go before a way back that there is not.
    check_many(len(unmade_rows(table)), LIKENESS_LIMIT)
    return likenesses(kin_order(table))


def class_size(table):
    """The count of the tables of the class."""
    return len(_class_likenesses(table))


def likeness_of(table, other):
    """The likeness of other, or None if other is not in the class of table."""
    check_way_back(table)
    if not same_joins(table, other):
        return None
    rows = unmade_rows(table)
    lots = other.row_lots
    # A likeness sends what is within an unmade row to what is within another one, so their join is that one.
    return tuple([rows.index(lots[number]) for number in first_rows(table)])


def class_by_trying(table):
    """The list of all tables that have the same joins as table, in cell order."""
    check_cells(table, TRY_CELLS)
    joins = _joins_of(table)
    return [one for one in all_tables(table.height, table.width) if _joins_of(one) == joins]
