"""Points 61 to 63: full blocks, covers, greatest and prime blocks, and the factors that blocks make."""

import itertools

from greatestback.blocks import (
    RANK_CELLS, block_factors, block_table, factor_blocks, fewest_blocks, greatest_blocks, is_cover, is_full_block,
    prime_blocks,
)
from greatestback.errors import BadLot, BadPaper, BadPlace, NoWayBack, TooMany, UnlikeSizes
from greatestback.tables import Table
from support import HUGE, ODD, Case, is_int, is_lot, lot_order, near, sample_tables, sizes, small_tables, tables_of_size
from words import (
    bad_of, columns_of, fewest_of, first_bad_paper_of, full_blocks_of, greatest_blocks_of, is_cover_of,
    is_full_block_of, rank_paper_of, rows_of, table_of, then_of, unmade_columns_of, unmade_of, yes_cells,
)

ALL = list(small_tables(6)) + list(sample_tables(3, seed=13))
FEW = [table for table in ALL if table.height * table.width <= 16]
EMPTY = [Table([]), Table([], width=6), Table([[]] * 6), Table.filled(6, 6), Table.filled(4, 4)]
EXAMPLE = Table.of_lots([(0,), (0, 1)], 2)
THREE = Table.of_lots([(0, 1), (0, 2), (1, 2)], 3)
ACROSS = ~Table.same(4)
FULL = Table.filled(6, 6, yes=True)


def table_told(blocks, height, width):
    return table_of(height, width, lambda i, k: any(i in rows and k in columns for rows, columns in blocks))


def is_block_of(value, height, width):
    return type(value) is tuple and len(value) == 2 and is_lot(value[0], height) and is_lot(value[1], width)


def block_order(blocks):
    lots = lot_order([part for block in blocks for part in block])
    return sorted(blocks, key=lambda block: (lots.index(block[1]), lots.index(block[0])))


class FullBlocks(Case):

    def test_every_pair_of_lots(self):
        for table in list(small_tables(4)) + [EXAMPLE, THREE, ACROSS]:
            told = full_blocks_of(table)
            lots = [[lot for count in range(side + 2) for lot in itertools.combinations(range(side + 1), count)]
                    for side in table.size]
            for rows, columns in itertools.product(*lots):
                self.assertIs(is_full_block(table, (rows, columns)), (rows, columns) in told)

    def test_empty_lots_and_empty_tables(self):
        for table in EMPTY + [FULL, EXAMPLE]:
            for value in [((), ()), ((0,), ()), ((), (0,)), ((), (0, 1))]:
                self.answers(False, is_full_block, table, value)

    def test_any_value(self):
        for table in [EXAMPLE, THREE, FULL, Table([]), Table.filled(1, 1, yes=True), Table.same(6)]:
            right = (full_blocks_of(table) or [((0,), (0,))])[-1]
            self.judges(is_full_block_of, is_full_block, [table], [right] + near(right) + ODD)
        self.answers(True, is_full_block, EXAMPLE, ((0, 1), (0,)))
        self.answers(False, is_full_block, EXAMPLE, [(0, 1), (0,)])
        self.answers(False, is_full_block, EXAMPLE, ((0, 1), (False,)))
        self.answers(False, is_full_block, EXAMPLE, ((1, 0), (0,)))


class BlockTable(Case):

    def test_cells(self):
        lists = [[], [((), ())], [((0,), ()), ((), (0,))], [((0, 2), (0, 1))], [((0, 1), (1,)), ((1,), (0, 1))] * 2,
                 [((0,), (0, 1)), ((0,), (1,)), ((2,), ())]]
        for blocks in lists:
            for height, width in [(3, 2), (6, 6), (4, 3), (3, 6)]:
                told = table_told(blocks, height, width)
                self.answers(told, block_table, blocks, height, width)
                self.same(block_table(tuple(blocks), height, width), told)
        for height, width in sizes():
            self.same(block_table([], height, width), Table.filled(height, width))
            self.same(block_table([((), ())] * 70, height, width), Table.filled(height, width))

    def test_of_all_full_blocks(self):
        for table in FEW:
            self.same(block_table(full_blocks_of(table)[:70], table.height, table.width),
                      table_told(full_blocks_of(table)[:70], table.height, table.width))
            self.same(block_table(greatest_blocks_of(table), table.height, table.width), table)

    def test_70_blocks(self):
        blocks = [((i,), (k,)) for i in range(6) for k in range(6)] * 2
        self.same(block_table(blocks[:70], 6, 6), FULL)

    def test_bad_places_go_first(self):
        for odd in ODD:
            if not is_int(odd, 0, 6):
                for blocks in [[], [None], [((0,), (0,))], ((9,),)]:
                    self.refused_every_way(BadPlace, {"place": odd}, block_table, blocks, odd, 2)
                    self.refused_every_way(BadPlace, {"place": odd}, block_table, blocks, 2, odd)
                    self.refused_every_way(BadPlace, {"place": odd}, block_table, blocks, odd, -5)

    def test_items_that_are_no_blocks(self):
        right = ((0, 2), (1,))
        for height, width in [(3, 2), (6, 6), (0, 6), (6, 0), (1, 1)]:
            for odd in ODD + near(right) + [((0,), (0,)), ((5,), (5,)), ((6,), (0,)), ((0,), (6,))]:
                if not is_block_of(odd, height, width):
                    self.refused_every_way(BadLot, {"lot": odd}, block_table, [odd], height, width)
                    self.refused_every_way(BadLot, {"lot": odd}, block_table, [((), ()), odd, HUGE], height, width)
                    self.refused_every_way(BadLot, {"lot": odd}, block_table, (odd, ((7,), (7,))), height, width)

    def test_the_first_number_of_a_block_goes_by_the_height(self):
        self.refused(BadLot, {"lot": ((0,), (1,))}, block_table, [((0,), (1,))], 2, 1)
        self.refused(BadLot, {"lot": ((1,), (0,))}, block_table, [((1,), (0,))], 1, 2)
        self.same(block_table([((1,), (0,))], 2, 1), Table([[False], [True]]))


class Covers(Case):

    def test_lists_of_full_blocks(self):
        for table in FEW[::3]:
            blocks = greatest_blocks_of(table)
            for count in range(min(len(blocks), 3) + 1):
                for chosen in list(itertools.combinations(blocks, count))[:40]:
                    self.assertIs(is_cover(table, chosen), is_cover_of(table, chosen))
                    self.assertIs(is_cover(table, list(chosen)), is_cover_of(table, chosen))
            cells = [((i,), (k,)) for i, k in yes_cells(table)]
            self.assertIs(is_cover(table, cells), True)
            self.assertIs(is_cover(table, cells[1:]), cells == [])
            self.assertIs(is_cover(table, tuple(cells + cells)), True)

    def test_the_empty_cover(self):
        for table in EMPTY:
            self.answers(True, is_cover, table, [])
            self.answers(True, is_cover, table, ())
        for table in [EXAMPLE, FULL]:
            self.answers(False, is_cover, table, [])

    def test_a_block_that_is_not_full_spoils_it(self):
        right = [((0, 1), (0,)), ((1,), (0, 1))]
        self.answers(True, is_cover, EXAMPLE, right)
        for wrong in [((0, 1), (0, 1)), ((), (0,)), ((0,), ()), ((), ()), ((2,), (0,)), None, [(0, 1), (0,)]]:
            self.answers(False, is_cover, EXAMPLE, right + [wrong])
            self.answers(False, is_cover, EXAMPLE, (wrong,) + tuple(right))

    def test_any_value(self):
        for table in [EXAMPLE, THREE, Table([]), FULL, Table.filled(2, 2), Table.same(3)]:
            right = tuple(greatest_blocks_of(table))
            self.judges(is_cover_of, is_cover, [table], [right, list(right)] + near(right) + ODD)
            for block in greatest_blocks_of(table)[:1]:
                self.judges(is_cover_of, is_cover, [table], [[one] + list(right)[1:] for one in near(block)])


class GreatestBlocks(Case):

    def test_all_of_them_in_their_order(self):
        for table in ALL + EMPTY + [THREE, ACROSS, Table.same(6), FULL]:
            told = greatest_blocks_of(table)
            self.same(greatest_blocks(table), told)
            self.assertEqual(told, block_order(told))
        for table in [~Table.same(5), ~Table.same(6)]:
            rows = rows_of(table)
            found = greatest_blocks(table)
            self.assertEqual(len(found), 2 ** table.width - 2)
            for told, columns in found:
                self.assertEqual(told, tuple(i for i, row in enumerate(rows) if set(columns) <= set(row)))

    def test_none_where_no_cell_is_yes(self):
        for table in EMPTY:
            self.answers([], greatest_blocks, table)

    def test_by_position_and_by_name(self):
        self.answers([((0, 1), (0,)), ((1,), (0, 1))], greatest_blocks, EXAMPLE)
        self.answers([(tuple(range(6)), tuple(range(6)))], greatest_blocks, FULL)


class PrimeBlocks(Case):

    def test_word_by_word(self):
        for table in ALL + EMPTY + [Table.same(6)]:
            if bad_of(table) == []:
                told = list(rank_paper_of(table)[1])
                self.same(prime_blocks(table), told)
                self.assertTrue(is_cover_of(table, told))
            else:
                self.refused(NoWayBack, {"paper": first_bad_paper_of(table)}, prime_blocks, table)
        self.refused_every_way(NoWayBack, {"paper": ((0, 1), (0, 2), (1, 2))}, prime_blocks, THREE)

    def test_by_position_and_by_name(self):
        self.answers([((0, 1), (0,)), ((1,), (0, 1))], prime_blocks, EXAMPLE)
        table = Table.of_lots([(0, 1), (1,), (), (1,), (0, 1, 2)], 3)
        self.answers([((0, 1, 3, 4), (1,)), ((0, 4), (0, 1)), ((4,), (0, 1, 2))], prime_blocks, table)

    def test_they_need_not_be_greatest_blocks_alone(self):
        table = Table.of_lots([(0,), (1,), (0, 1)], 2)
        self.same([prime_blocks(table), greatest_blocks(table)],
                  [[((0, 2), (0,)), ((1, 2), (1,))], [((0, 2), (0,)), ((1, 2), (1,)), ((2,), (0, 1))]])


class FewestBlocks(Case):

    def check(self, table):
        found = fewest_blocks(table)
        self.assertIs(type(found), list)
        self.assertTrue(is_cover_of(table, found))
        self.assertEqual(len(found), fewest_of(table))

    def test_least_count(self):
        for table in FEW + [THREE, ACROSS, Table.same(4), Table.filled(4, 4, yes=True)]:
            self.check(table)

    def test_of_three_rows_and_columns(self):
        for table in list(tables_of_size(3, 3))[::3]:
            self.check(table)

    def test_fewer_than_the_rows_and_the_columns_that_are_unmade(self):
        table = Table.of_lots([(0, 2), (1, 3), (0, 2, 3), (1, 2, 3)], 4)
        self.check(table)
        self.assertEqual([len(unmade_of(table)), len(unmade_columns_of(table))], [4, 4])
        self.assertEqual([len(fewest_blocks(table)), len(fewest_blocks(ACROSS))], [3, 4])

    def test_no_list_is_kept(self):
        for table in [EXAMPLE, Table.filled(2, 2)]:
            fewest_blocks(table).append("spoilt")
            self.check(table)
        self.answers([], fewest_blocks, Table.filled(3, 3))

    def test_16_cells_and_more(self):
        self.same(RANK_CELLS, 16)
        for height, width in sizes():
            for table in [Table.filled(height, width), Table.filled(height, width, yes=True)]:
                if height * width > 16:
                    told = {"many": height * width, "limit": 16}
                    self.refused_every_way(TooMany, told, fewest_blocks, table)
                else:
                    self.check(table)
        self.refused(TooMany, {"many": 36, "limit": 16}, fewest_blocks, ~Table.same(6))
        self.refused(TooMany, {"many": 18, "limit": 16}, fewest_blocks, Table.of_lots([(0, 1), (0, 2), (1, 2)], 6))


class Factors(Case):

    def test_of_covers(self):
        for table in FEW[::2]:
            for blocks in [greatest_blocks_of(table), fewest_blocks(table), [((i,), (k,)) for i, k in yes_cells(table)]]:
                if len(blocks) <= 6:
                    left = table_of(table.height, len(blocks), lambda i, b: i in blocks[b][0])
                    right = table_of(len(blocks), table.width, lambda b, k: k in blocks[b][1])
                    self.same(block_factors(table, blocks), (left, right))
                    self.same(block_factors(table, tuple(blocks)), (left, right))
                    self.assertEqual(then_of(left, right), table)

    def test_the_empty_cover_and_equal_blocks(self):
        for table in EMPTY:
            told = (Table.filled(table.height, 0), Table.filled(0, table.width))
            self.answers(told, block_factors, table, [])
        block = ((0, 1), (0, 1))
        table = Table.filled(2, 2, yes=True)
        self.answers((Table.filled(2, 3, yes=True), Table.filled(3, 2, yes=True)), block_factors, table, [block] * 3)

    def test_six_blocks_and_seven(self):
        table = Table.filled(2, 2, yes=True)
        block = ((0, 1), (0, 1))
        self.same([part.size for part in block_factors(table, (block,) * 6)], [(2, 6), (6, 2)])
        for many in (7, 8, 70):
            for blocks in [[block] * many, (block,) * many, [block] * (many - 1) + [((0,), (0,))]]:
                self.refused_every_way(TooMany, {"many": many, "limit": 6}, block_factors, table, blocks)

    def test_no_cover_goes_before_too_many(self):
        for table in [EXAMPLE, FULL, THREE]:
            some = greatest_blocks_of(table)
            values = [[some[0]] * 7 + [((), ())], ODD[:60], tuple(ODD[:60])]
            values += [[((0,), (0,))] * 7, [((0,), (0,))] * 70] + ODD + near(tuple(some)[:3])
            for value in [one for one in values if not is_cover_of(table, one)]:
                self.refused_every_way(BadPaper, {"paper": value}, block_factors, table, value)
        self.refused(BadPaper, {"paper": ()}, block_factors, EXAMPLE, ())

    def test_blocks_of_two_tables(self):
        tables = list(small_tables(4)) + [EXAMPLE, THREE]
        for first, second in itertools.product(tables, tables):
            if first.width == second.height:
                told = [(rows, columns) for rows, columns in zip(columns_of(first), rows_of(second))
                        if rows != () and columns != ()]
                self.same(factor_blocks(first, second), told)
                self.assertIs(is_cover(then_of(first, second), told), True)

    def test_equal_blocks_stay(self):
        blocks = [((0, 1), (0, 1))] * 6
        self.answers(blocks, factor_blocks, Table.filled(2, 6, yes=True), Table.filled(6, 2, yes=True))
        self.answers([], factor_blocks, Table.filled(2, 6), Table.filled(6, 2, yes=True))
        self.answers([], factor_blocks, Table.filled(2, 0), Table.filled(0, 2))

    def test_there_and_back(self):
        for table in FEW[::2]:
            blocks = greatest_blocks_of(table)
            if len(blocks) <= 6:
                self.same(factor_blocks(*block_factors(table, blocks)), blocks)

    def test_unlike_sizes(self):
        for size, other in itertools.product(sizes(), sizes()):
            if size[1] != other[0]:
                told = {"first": size, "second": other}
                self.refused(UnlikeSizes, told, factor_blocks, Table.filled(*size), Table.filled(*other))
        self.refused_every_way(UnlikeSizes, {"first": (2, 3), "second": (2, 3)}, factor_blocks, Table.filled(2, 3),
                               Table.filled(2, 3))

    def test_example(self):
        self.same([greatest_blocks(EXAMPLE), prime_blocks(EXAMPLE), factor_blocks(EXAMPLE, EXAMPLE)],
                  [[((0, 1), (0,)), ((1,), (0, 1))]] * 3)
