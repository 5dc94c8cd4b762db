"""The four ranks of a table, cells that are apart, and rank papers."""

from itertools import combinations

from greatestback.blocks import RANK_CELLS, fewest_blocks, is_cover, prime_blocks
from greatestback.checks import is_number, is_number_pair
from greatestback.unmade import unmade_columns, unmade_rows
from greatestback.wayback import check_cells, own_cells, way_back


def row_rank(table):
    """The count of unmade rows."""
    return len(unmade_rows(table))


def column_rank(table):
    """The count of unmade columns."""
    return len(unmade_columns(table))


def block_rank(table):
    """The least count of full blocks that cover the table."""
    if way_back(table) is not None:
        return row_rank(table)
    return len(fewest_blocks(table))


def apart_rank(table):
    """The greatest count of cells that are apart."""
    if way_back(table) is not None:
        return row_rank(table)
    check_cells(table, RANK_CELLS)
    cells = [(row, column) for row, lot in enumerate(table.row_lots) for column in lot]
    # No two cells that are apart are in one row or in one column.
    most = min(table.height, table.width)
    lists = [chosen for count in range(most + 1) for chosen in combinations(cells, count)]
    return max([len(chosen) for chosen in lists if are_apart(table, chosen)])


def are_apart(table, value):
    """True if value is a list or tuple of yes cells of the table, each two of which are apart."""
    if not isinstance(value, (list, tuple)):
        return False
    cells = list(value)
    if not all([is_number_pair(cell, table.size) and table[cell] for cell in cells]):
        return False
    return all([_is_apart(table, one, other) for one, other in combinations(cells, 2)])


def _is_apart(table, one, other):
    """True if two yes cells are apart. A cell is not apart from itself."""
    return not table[one[0], other[1]] or not table[other[0], one[1]]


def apart_cells(table):
    """The list of the apart cells of the table: the first row and the least own column of each unmade row."""
    return own_cells(table)


def rank_paper(table):
    """The rank paper with the prime blocks and the apart cells."""
    blocks = prime_blocks(table)
    return (len(blocks), tuple(blocks), tuple(apart_cells(table)))


def is_rank_paper(table, paper):
    """True if paper is a rank paper for the table."""
    if not isinstance(paper, tuple) or len(paper) != 3:
        return False
    number, blocks, cells = paper
    if not isinstance(blocks, tuple) or not isinstance(cells, tuple) or len(blocks) != len(cells):
        return False
    if not is_number(number, len(blocks) + 1) or number != len(blocks):
        return False
    return is_cover(table, blocks) and are_apart(table, cells)
