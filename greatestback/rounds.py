"""Tables that are their own squares, and how the powers of a table come round."""

from greatestback.checks import check_many
from greatestback.greatest import check_crosswise
from greatestback.tables import check_square

POWER_LIMIT = 4


def is_own_square(table):
    """True if the table then itself is the table."""
    return table.height == table.width and table * table == table


def squares_of_way(table, other):
    """The pair of the tables (A X, X A), for A = table and X = other."""
    check_crosswise(table, other)
    return (table * other, other * table)


def rounds(table):
    """The pair (start, length): power start is the first that comes again, length exponents later."""
    found = powers(table)
    start = found.index(found[-1] * table) + 1
    return (start, len(found) - start + 1)


def powers(table):
    """The list of the powers from 1 on, up to the last one that is unlike all before it."""
    check_square(table)
    check_many(table.height, POWER_LIMIT)
    found = [table]
    following = table * table
    while following not in found:
        found.append(following)
        following = following * table
    return found


def settled(table):
    """The least exponent from 1 on whose power is its own square."""
    return [is_own_square(one) for one in powers(table)].index(True) + 1
