"""What the document's words say, walked slowly: sets of numbers, all choices, all lists, all tables."""

import itertools

from greatestback.tables import Table
from support import lot_order, row_sets


def lot(numbers):
    return tuple(sorted(set(numbers)))


def join(lots):
    return lot(number for one in lots for number in one)


def within(one, other):
    return set(one) <= set(other)


def rows_of(table):
    """The lots of the rows, from the cells."""
    return [lot(row) for row in row_sets(table)]


def columns_of(table):
    """The lots of the columns, from the cells."""
    return [lot(i for i in range(table.height) if table.rows[i][k]) for k in range(table.width)]


def joins_of(lots):
    """Point 22 word by word: one choice of lots after another."""
    joins = [()]
    for one in lots:
        joins = lot_order(joins + [join([one, other]) for other in joins])
    return joins


def joined_of(table):
    return joins_of(rows_of(table))


def lower(joined, row):
    """The joined rows within a joined row and not equal to it."""
    return [one for one in joined if one != row and within(one, row)]


def upper(joined, row):
    return [one for one in joined if one != row and within(row, one)]


def unmade_among(joined):
    return [row for row in joined if join(lower(joined, row)) != row]


def unmade_of(table):
    return unmade_among(joined_of(table))


def unmade_columns_of(table):
    return unmade_among(joins_of(columns_of(table)))


def greatest_within(joined, numbers):
    """The greatest joined row within a set, by looking at all of them."""
    return [row for row in joined if set(row) <= set(numbers)][-1]


def both_of(joined, lots):
    """Both of a list of joined rows; of none, the top."""
    return greatest_within(joined, set(joined[-1]).intersection(*lots))


def unmet_of(table):
    joined = joined_of(table)
    return [row for row in joined if both_of(joined, upper(joined, row)) != row]


def own_of(table, wanted):
    """The column numbers that a row has if and only if it holds the lot."""
    rows = rows_of(table)
    return tuple(k for k in range(table.width) if all((k in row) == within(wanted, row) for row in rows))


def is_prime_by_lists(joined, row):
    """Point 29 over every list of joined rows without repeats."""
    lists = itertools.chain(*[itertools.combinations(joined, count) for count in range(len(joined) + 1)])
    return all(any(within(row, one) for one in told) for told in lists if within(row, join(told)))


def is_prime_of(joined, row):
    """Point 29 with the one list that matters: all joined rows that do not hold the row."""
    return not within(row, join([one for one in joined if not within(row, one)]))


def bad_of(table):
    """The bad rows: unmade and not prime."""
    joined = joined_of(table)
    return [row for row in unmade_among(joined) if not is_prime_of(joined, row)]


def bad_paper_of(table, bad):
    """The bad paper of a bad row, as point 31 tells how it is made."""
    taken = []
    for row in rows_of(table):
        if not within(bad, row):
            if within(bad, join(taken + [row])):
                return (bad, join(taken), row)
            taken.append(row)
    return None


def first_bad_paper_of(table):
    bad = bad_of(table)
    return bad_paper_of(table, bad[0]) if bad else None


def is_bad_paper_of(table, paper):
    """Point 31: what a bad paper is."""
    if type(paper) is not tuple or len(paper) != 3 or not all(is_lot_below(part, table.width) for part in paper):
        return False
    p, y, z = paper
    joined = joined_of(table)
    if p not in unmade_among(joined) or y not in joined or z not in joined:
        return False
    return within(p, join([y, z])) and not within(p, y) and not within(p, z)


def is_lot_below(value, below):
    if type(value) is not tuple or any(type(number) is not int for number in value):
        return False
    return value == lot(value) and all(0 <= number < below for number in value)


def spread_at(joined, x, y, z):
    """True if both spreads over either for the triple."""
    return both_of(joined, [x, join([y, z])]) == join([both_of(joined, [x, y]), both_of(joined, [x, z])])


def turned_spread_at(joined, x, y, z):
    """True if either spreads over both for the triple."""
    return join([x, both_of(joined, [y, z])]) == both_of(joined, [join([x, y]), join([x, z])])


def table_of(height, width, is_yes):
    """The table of that size with the cells that a function of row and column tells."""
    return Table([[is_yes(i, k) for k in range(width)] for i in range(height)], width=width)


def then_of(first, second):
    """Point 20: a cell is yes if it has a middle."""
    one, other = first.rows, second.rows
    return table_of(first.height, second.width,
                    lambda i, j: any(one[i][k] and other[k][j] for k in range(first.width)))


def back_of(table, other):
    return then_of(then_of(table, other), table)


def inside_of(one, other):
    return all(b or not a for first, second in zip(one.rows, other.rows) for a, b in zip(first, second))


def crosswise_of(table, other):
    return (other.height, other.width) == (table.width, table.height)


def greatest_under_of(table):
    """Point 35, cell by cell."""
    rows = rows_of(table)
    return table_of(table.width, table.height,
                    lambda k, i: all(within(rows[i], row) for row in rows if k in row))


def count_yes(table):
    return sum(row.count(True) for row in table.rows)
