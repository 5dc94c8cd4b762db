"""Full blocks of a table, lists of blocks that cover it, and the two tables that such a list gives."""

from itertools import combinations

from greatestback.behind import turned
from greatestback.checks import check_many, check_number
from greatestback.errors import BadLot, BadPaper
from greatestback.kinorder import order_things
from greatestback.lots import SIDE, all_lots, holds, is_lot, join_all, numbers_holding
from greatestback.tables import Table, check_behind
from greatestback.wayback import check_cells

RANK_CELLS = 16


def _is_block(value, height, width):
    """True if value is a pair of a lot below height and a lot below width."""
    return isinstance(value, tuple) and len(value) == 2 and is_lot(value[0], height) and is_lot(value[1], width)


def is_full_block(table, value):
    """True if value is a full block of the table."""
    if not _is_block(value, table.height, table.width) or () in value:
        return False
    rows, columns = value
    return holds(numbers_holding(table.row_lots, columns), rows)


def block_table(blocks, height, width):
    """The table of that size that is yes in exactly the cells of the blocks."""
    check_number(height, SIDE + 1)
    check_number(width, SIDE + 1)
    for block in blocks:
        if not _is_block(block, height, width):
            raise BadLot(block)
    lots = [join_all([columns for rows, columns in blocks if row in rows]) for row in range(height)]
    return Table.of_lots(lots, width)


def is_cover(table, value):
    """True if value is a list or tuple of full blocks that cover the table."""
    if not isinstance(value, (list, tuple)) or not all([is_full_block(table, item) for item in value]):
        return False
    return block_table(value, table.height, table.width) == table


def greatest_blocks(table):
    """The list of the greatest blocks, in the lot order of their column lots."""
    blocks = [(numbers_holding(table.row_lots, columns), columns) for columns in all_lots(table.width)]
    return [block for block in blocks if () not in block and _has_all_columns(table, block)]


def _has_all_columns(table, block):
    """True if no further column is yes in all rows of the block."""
    return numbers_holding(table.column_lots, block[0]) == block[1]


def prime_blocks(table):
    """The list of the blocks (R, p) for the unmade rows p, where R has the rows that hold p."""
    return [(numbers_holding(table.row_lots, row), row) for row in order_things(table)]


def fewest_blocks(table):
    """A list of full blocks that covers the table with the least count."""
    check_cells(table, RANK_CELLS)
    # Each full block is within a greatest one, so no other blocks need be tried.
    blocks = greatest_blocks(table)
    for count in range(len(blocks)):
        for chosen in combinations(blocks, count):
            if is_cover(table, chosen):
                return list(chosen)
    return blocks


def block_factors(table, blocks):
    """The pair of tables (L, M) that the cover gives: L then M is the table."""
    if not is_cover(table, blocks):
        raise BadPaper(blocks)
    check_many(len(blocks), SIDE)
    left = Table.of_lots([rows for rows, _ in blocks], table.height)
    right = Table.of_lots([columns for _, columns in blocks], table.width)
    return (turned(left), right)


def factor_blocks(first, second):
    """The list of the blocks of column k of first and row k of second, without those with an empty lot."""
    check_behind(first, second)
    return [block for block in zip(first.column_lots, second.row_lots) if () not in block]
