"""Points 64 and 65: apart cells, the four ranks, and rank papers."""

import itertools

from greatestback.errors import NoWayBack, TooMany
from greatestback.ranks import (
    apart_cells, apart_rank, are_apart, block_rank, column_rank, is_rank_paper, rank_paper, row_rank,
)
from greatestback.tables import Table
from support import HUGE, ODD, Case, near, sample_tables, sizes, small_tables, tables_of_size
from words import (
    are_apart_of, bad_of, fewest_of, first_bad_paper_of, full_blocks_of, greatest_blocks_of, is_rank_paper_of,
    most_apart_of, rank_paper_of, unmade_columns_of, unmade_of, yes_cells,
)

ALL = list(small_tables(6)) + list(sample_tables(3, seed=14))
FEW = [table for table in ALL if table.height * table.width <= 16]
BACK = [table for table in ALL if bad_of(table) == []]
BAD = [table for table in ALL if bad_of(table)]
EMPTY = [Table([]), Table([], width=6), Table([[]] * 6), Table.filled(6, 6)]
EXAMPLE = Table.of_lots([(0,), (0, 1)], 2)
THREE = Table.of_lots([(0, 1), (0, 2), (1, 2)], 3)
ACROSS = ~Table.same(4)
# Four rows and four columns are unmade, and three blocks cover it.
THIN = Table.of_lots([(0, 2), (1, 3), (0, 2, 3), (1, 2, 3)], 4)
FULL = Table.filled(6, 6, yes=True)


def ranks_of(table):
    return [apart_rank(table), block_rank(table), row_rank(table), column_rank(table)]


class Ranks(Case):

    def test_rows_and_columns(self):
        for table in ALL + [Table.same(6), ~Table.same(6), FULL, THREE]:
            self.same([row_rank(table), column_rank(table)], [len(unmade_of(table)), len(unmade_columns_of(table))])
        self.answers(2, row_rank, Table.of_lots([(0,), (1,), (0, 1), ()], 3))
        self.answers(2, column_rank, Table.of_lots([(0,), (1,), (0, 1), ()], 3))
        self.answers(3, row_rank, Table.of_lots([(0, 1), (0, 2), (0, 1, 2), (2,)], 3))

    def test_blocks_and_apart_cells(self):
        for table in FEW:
            self.same([apart_rank(table), block_rank(table)], [most_apart_of(table), fewest_of(table)])

    def test_of_three_rows_and_columns(self):
        for table in list(tables_of_size(3, 3))[::3]:
            self.same([apart_rank(table), block_rank(table)], [most_apart_of(table), fewest_of(table)])

    def test_how_they_stand_to_one_another(self):
        for table in FEW + [THREE, ACROSS, THIN]:
            apart, blocks, rows, columns = ranks_of(table)
            self.assertTrue(apart <= blocks <= min(rows, columns))
            if bad_of(table) == []:
                self.assertEqual([apart, blocks, columns], [rows] * 3)

    def test_one_number_if_a_table_leads_back(self):
        for table in BACK + [Table.same(6)]:
            self.same(ranks_of(table), [len(unmade_of(table))] * 4)

    def test_they_may_differ(self):
        self.same(ranks_of(ACROSS), [3, 4, 4, 4])
        self.same(ranks_of(THIN)[1:], [3, 4, 4])
        self.same(ranks_of(THREE), [3, 3, 3, 3])

    def test_no_rows_and_no_columns(self):
        for table in EMPTY:
            for function in [row_rank, column_rank, block_rank, apart_rank]:
                self.answers(0, function, table)

    def test_by_position_and_by_name(self):
        for function, expected in [(row_rank, 4), (column_rank, 4), (block_rank, 4), (apart_rank, 3)]:
            self.answers(expected, function, ACROSS)
            self.answers(6, function, Table.same(6))

    def test_more_than_16_cells_without_a_way_back(self):
        many = 0
        for table in BAD + [~Table.same(5), ~Table.same(6), Table.of_lots([(0, 1), (0, 2), (1, 2)], 6)]:
            cells = table.height * table.width
            if cells > 16:
                many += 1
                for function in [block_rank, apart_rank]:
                    self.refused_every_way(TooMany, {"many": cells, "limit": 16}, function, table)
        self.assertGreater(many, 10)

    def test_16_cells_without_a_way_back(self):
        for table in [ACROSS, THIN, Table.of_lots([(0, 1), (0, 2), (1, 2), ()], 4)]:
            self.assertNotEqual(bad_of(table), [])
            self.same([apart_rank(table), block_rank(table)], [most_apart_of(table), fewest_of(table)])

    def test_every_size_with_a_way_back(self):
        for height, width in sizes():
            table = Table.filled(height, width, yes=True)
            self.same(ranks_of(table), [min(1, height * width)] * 4)


class Apart(Case):

    def test_every_list_of_cells(self):
        for table in list(small_tables(4)) + [EXAMPLE, THREE]:
            cells = list(itertools.product(range(table.height), range(table.width)))
            for count in range(3):
                for value in itertools.product(cells, repeat=count):
                    self.assertIs(are_apart(table, value), are_apart_of(table, value))
                    self.assertIs(are_apart(table, list(value)), are_apart_of(table, value))

    def test_a_full_block_never_has_two_of_them(self):
        for table in FEW[::5]:
            for one, other in itertools.combinations(yes_cells(table), 2):
                shared = any(one[0] in rows and other[0] in rows and one[1] in columns and other[1] in columns
                             for rows, columns in full_blocks_of(table))
                self.assertIs(are_apart(table, [one, other]), not shared)

    def test_none_one_and_one_twice(self):
        for table in [EXAMPLE, FULL] + EMPTY:
            self.answers(True, are_apart, table, [])
            self.answers(True, are_apart, table, ())
        self.answers(True, are_apart, EXAMPLE, [(1, 0)])
        self.answers(False, are_apart, EXAMPLE, [(0, 1)])
        for value in [[(1, 1), (1, 1)], [(0, 0), (1, 1), (0, 0)], ((0, 0),) * 2]:
            self.answers(False, are_apart, EXAMPLE, value)
        self.answers(True, are_apart, EXAMPLE, [(1, 1), (0, 0)])

    def test_each_two_must_be_apart(self):
        self.answers(True, are_apart, Table.same(6), tuple((i, i) for i in range(6)))
        self.answers(False, are_apart, Table.same(6) | Table.of_lots([(5,)] + [()] * 4 + [(0,)], 6),
                     [(i, i) for i in range(6)])
        # One no cell of the two that are looked at is enough, whichever it is.
        self.answers(True, are_apart, Table.of_lots([(0, 1), (1,)], 2), [(0, 0), (1, 1)])
        self.answers(True, are_apart, Table.of_lots([(0,), (0, 1)], 2), [(0, 0), (1, 1)])
        self.answers(False, are_apart, Table.filled(2, 2, yes=True), [(0, 0), (1, 1)])

    def test_any_value(self):
        for table in [EXAMPLE, Table.same(3), Table([]), FULL, Table.filled(1, 1, yes=True), Table.filled(2, 2)]:
            right = rank_paper_of(table)[2]
            self.judges(are_apart_of, are_apart, [table], [right, list(right)] + near(right) + ODD)
        for value in [((0, HUGE),), ([0, 0],), [(0, 0, 0)], [(False, 0)], [(0, -1)], [((0, 0), (1, 1))], None]:
            self.answers(False, are_apart, EXAMPLE, value)

    def test_apart_cells(self):
        for table in BACK + [Table.same(6)]:
            told = list(rank_paper_of(table)[2])
            self.same(apart_cells(table), told)
            self.assertIs(are_apart_of(table, told), True)
        self.answers([(1, 2), (0, 0)], apart_cells, Table.of_lots([(0, 1, 2), (2,), (2,), (0, 1, 2)], 4))


class Papers(Case):

    def test_the_paper_of_the_program(self):
        for table in BACK + [Table.same(6)] + EMPTY:
            told = rank_paper_of(table)
            self.same(rank_paper(table), told)
            self.assertIs(is_rank_paper_of(table, told), True)
            self.assertIs(is_rank_paper(table, told), True)
        self.answers((0, (), ()), rank_paper, Table.filled(2, 3))
        self.answers((2, (((0, 1), (0,)), ((1,), (0, 1))), ((0, 0), (1, 1))), rank_paper, EXAMPLE)

    def test_example(self):
        self.same([rank_paper(EXAMPLE), block_rank(THREE)],
                  [(2, (((0, 1), (0,)), ((1,), (0, 1))), ((0, 0), (1, 1))), 3])

    def test_a_paper_with_a_part_changed_and_any_value(self):
        tables = [EXAMPLE, Table.same(3), Table.of_lots([(1, 2), (2,), (0, 2), (0, 1, 2)], 3), FULL, Table([]), THREE]
        for table in tables:
            right = rank_paper_of(EXAMPLE if table == THREE else table)
            values = [right] + near(right) + [(right[0],) + tuple(map(list, right[1:]))] + ODD
            self.judges(is_rank_paper_of, is_rank_paper, [table], values)

    def test_one_is_not_true(self):
        self.answers(True, is_rank_paper, FULL, rank_paper_of(FULL))
        self.answers(False, is_rank_paper, FULL, (True,) + rank_paper_of(FULL)[1:])
        self.answers(False, is_rank_paper, Table([]), (False, (), ()))
        self.answers(False, is_rank_paper, Table([]), (0, [], ()))
        self.answers(False, is_rank_paper, Table([]), (0, (), []))
        self.answers(False, is_rank_paper, Table([]), [0, (), ()])
        self.answers(True, is_rank_paper, Table([]), (0, (), ()))

    def test_it_need_not_be_the_one_of_the_program(self):
        blocks, cells = (((1,), (0, 1)), ((0,), (0,))), ((1, 1), (0, 0))
        self.answers(True, is_rank_paper, EXAMPLE, (2, blocks, cells))
        self.answers(False, is_rank_paper, EXAMPLE, (3, blocks + blocks[:1], cells))
        self.answers(False, is_rank_paper, EXAMPLE, (2, blocks, cells + cells[:1]))
        self.answers(False, is_rank_paper, EXAMPLE, (1, blocks[:1], cells[:1]))

    def test_there_may_be_one_where_none_leads_back(self):
        blocks = tuple(((i,), row) for i, row in enumerate(THREE.row_lots))
        self.answers(True, is_rank_paper, THREE, (3, blocks, ((0, 0), (1, 2), (2, 1))))
        self.answers(False, is_rank_paper, THREE, (3, blocks, ((0, 0), (1, 2), (2, 2))))

    def test_if_there_is_one_its_number_is_both_ranks(self):
        found = 0
        for table in FEW + [THREE, ACROSS]:
            blocks = greatest_blocks_of(table)[:9]
            for count in range(min(4, len(blocks)) + 1):
                for cells in itertools.islice(itertools.combinations(yes_cells(table), count), 30):
                    for chosen in itertools.islice(itertools.combinations(blocks, count), 10):
                        if is_rank_paper(table, (count, chosen, cells)):
                            found += 1
                            self.assertEqual([block_rank(table), apart_rank(table)], [count, count])
        self.assertGreater(found, 30)

    def test_none_leads_back(self):
        for table in BAD:
            for function in [rank_paper, apart_cells]:
                self.refused(NoWayBack, {"paper": first_bad_paper_of(table)}, function, table)
        for function in [rank_paper, apart_cells]:
            self.refused_every_way(NoWayBack, {"paper": ((0, 1), (0, 2), (1, 2))}, function, THREE)
