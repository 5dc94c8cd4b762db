"""Tables that lead back for a table."""

from greatestback.checks import check_many
from greatestback.errors import NoWayBack
from greatestback.greatest import back_and_forth, greatest_under, is_crosswise
from greatestback.primes import bad_row, is_bad_paper, own_columns
from greatestback.tables import Table
from greatestback.unmade import first_rows, unmade_rows

TRY_CELLS = 9


def leads_back(table, other):
    """True if other leads back for table."""
    return back_and_forth(table, other) == table


def way_back(table):
    """The greatest table under table if it leads back, otherwise None."""
    way = greatest_under(table)
    return way if leads_back(table, way) else None


def way_paper(table):
    """The pair ("back", X) with the greatest table X under table, or the pair ("bad", paper)."""
    way = way_back(table)
    return ("bad", bad_row(table)) if way is None else ("back", way)


def is_way_paper(table, paper):
    """True if paper is a way paper for table."""
    if not isinstance(paper, tuple) or len(paper) != 2:
        return False
    kind, told = paper
    if kind == "back":
        return isinstance(told, Table) and is_crosswise(table, told) and leads_back(table, told)
    return kind == "bad" and is_bad_paper(table, told)


def check_way_back(table):
    """Raise NoWayBack with the bad paper of the first bad row if no table leads back for table."""
    paper = bad_row(table)
    if paper is not None:
        raise NoWayBack(paper)


def own_cells(table):
    """The list of one cell for each unmade row: its first row and its least own column."""
    check_way_back(table)
    return [(row, own_columns(table, lot)[0]) for row, lot in zip(first_rows(table), unmade_rows(table))]


def small_way(table):
    """The table that leads back with one yes cell for each unmade row."""
    cells = own_cells(table)
    rows = [[(row, column) in cells for row in range(table.height)] for column in range(table.width)]
    return Table(rows, width=table.height)


def mutual_way(table):
    """The table X A X, where X is the greatest table under A = table."""
    check_way_back(table)
    return back_and_forth(greatest_under(table), table)


def are_mutual(first, second):
    """True if A B A is A and B A B is B, for A = first and B = second."""
    return is_crosswise(first, second) and leads_back(first, second) and leads_back(second, first)


def all_ways(table):
    """The list of all tables that lead back for table, in cell order."""
    check_cells(table, TRY_CELLS)
    return [way for way in all_tables(table.width, table.height) if leads_back(table, way)]


def check_cells(table, limit):
    """Raise TooMany if the table has more cells than the limit."""
    check_many(table.height * table.width, limit)


def all_tables(height, width):
    """The list of all tables of that size, in cell order."""
    choices = [[]]
    for _ in range(height * width):
        choices = [cells + [yes] for cells in choices for yes in (False, True)]
    starts = [row * width for row in range(height)]
    return [Table([cells[start:start + width] for start in starts], width=width) for cells in choices]
