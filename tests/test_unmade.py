"""Points 26 to 28: unmade rows and columns, makers, unmet rows, the core."""

from greatestback.errors import BadLot
from greatestback.joins import crossing, inner
from greatestback.tables import Table
from greatestback.unmade import (
    core, first_columns, first_rows, is_unmade, makers, unmade_columns, unmade_factors, unmade_rows, unmet_rows,
)
from support import ODD, Case, is_lot, lots_below, near, sample_tables, small_tables
from words import (
    columns_of, joined_of, joins_of, rows_of, table_of, then_of, unmade_columns_of, unmade_of, unmet_of, within,
)

TABLES = list(small_tables(6)) + list(sample_tables(3))
# 64 joined rows.
LARGEST = Table.same(6)
EMPTY = [Table([]), Table([], width=6), Table([[]] * 6), Table.filled(6, 6)]


class Unmade(Case):

    def test_rows_and_columns(self):
        for table in TABLES + [LARGEST]:
            self.same(unmade_rows(table), unmade_of(table))
            self.same(unmade_columns(table), unmade_columns_of(table))

    def test_each_is_the_lot_of_a_row_or_column(self):
        for table in TABLES:
            self.assertLessEqual(set(unmade_rows(table)), set(rows_of(table)) - {()})
            self.assertLessEqual(set(unmade_columns(table)), set(columns_of(table)) - {()})

    def test_equal_rows_count_once_and_the_empty_lot_is_made(self):
        self.answers([(0,), (0, 1)], unmade_rows, Table.of_lots([(0, 1), (0,), (), (0, 1), (0,), ()], 2))
        self.answers([(0,), (0, 1)], unmade_columns, Table.of_lots([(0, 1, 3, 5), (0, 3)], 6))
        self.answers([(0, 1), (0, 1, 2)], unmade_rows, Table.of_lots([(0, 1, 2), (0, 1)], 3))

    def test_no_unmade_rows(self):
        for table in EMPTY:
            for function in [unmade_rows, unmade_columns, first_rows, first_columns]:
                self.answers([], function, table)
            self.same([makers(table, ()), unmet_rows(table)], [[], []])
            self.same(is_unmade(table, ()), False)

    def test_is_unmade(self):
        for table in list(sample_tables(2)) + [LARGEST]:
            told = unmade_of(table)
            for lot in lots_below(6):
                self.assertIs(is_unmade(table, lot), lot in told)
            self.judges(lambda _, value: is_lot(value, table.width) and value in told, is_unmade, [table],
                        ODD + [other for lot in told for other in near(lot)])
        self.answers(True, is_unmade, Table.same(2), (1,))
        self.answers(False, is_unmade, Table.same(2), (0, 1))

    def test_makers(self):
        for table in list(sample_tables(1)) + [LARGEST, ~LARGEST]:
            unmade = unmade_of(table)
            for lot in lots_below(table.width):
                told = [row for row in unmade if within(row, lot)]
                self.same(makers(table, lot), told)
                self.same(tuple(sorted(set().union(*told))), inner(table, lot))
        self.answers([(0,), (0, 2)], makers, Table.of_lots([(0, 2), (0,), (1,)], 3), (0, 2))

    def test_bad_lots(self):
        for table in [Table.filled(6, 2), Table.filled(2, 6), Table([[]] * 2), Table([], width=2)]:
            for odd in ODD:
                if not is_lot(odd, table.width):
                    self.refused_every_way(BadLot, {"lot": odd}, makers, table, odd)

    def test_example(self):
        table = Table.of_lots([(0, 1), (0,), (), (1,), (0,)], 2)
        self.same([unmade_rows(table), first_rows(table), unmet_rows(table)], [[(0,), (1,)], [1, 3], [(0,), (1,)]])


class Unmet(Case):

    def test_unmet_rows(self):
        for table in TABLES + [LARGEST, ~LARGEST]:
            self.same(unmet_rows(table), unmet_of(table))

    def test_the_top_is_not_unmet(self):
        for table in TABLES:
            self.assertNotIn(joined_of(table)[-1], unmet_rows(table))

    def test_their_crossings_are_the_unmade_columns(self):
        for table in TABLES:
            crossings = [crossing(table, row) for row in unmet_rows(table)]
            self.assertEqual(len(crossings), len(set(crossings)))
            self.assertEqual(set(crossings), set(unmade_columns_of(table)))

    def test_by_position_and_by_name(self):
        self.answers([(), (0,), (0, 2)], unmet_rows, Table.of_lots([(0, 2), (0,), (0, 1, 2)], 3))
        self.answers([()], unmet_rows, Table.filled(2, 2, yes=True))


class First(Case):

    def test_first_rows_and_columns(self):
        for table in TABLES + [LARGEST, ~LARGEST]:
            rows, columns = rows_of(table), columns_of(table)
            self.same(first_rows(table), [rows.index(row) for row in unmade_of(table)])
            self.same(first_columns(table), [columns.index(column) for column in unmade_columns_of(table)])

    def test_in_lot_order_and_not_ascending(self):
        table = Table.of_lots([(0, 1, 2), (1, 2), (2,), (2,), (0, 1, 2)], 3)
        self.answers([2, 1, 0], first_rows, table)
        self.answers([0, 1, 2], first_columns, table)
        self.answers([3, 0, 1], first_columns, Table.of_lots([(1, 4), (0, 1, 4), (0, 1, 3, 4)], 5))
        self.answers([0, 1], first_columns, Table.of_lots([(1, 2), (0, 1, 2)], 3))


class Core(Case):

    def test_cells(self):
        for table in TABLES + [LARGEST, ~LARGEST]:
            rows = sorted(rows_of(table).index(row) for row in unmade_of(table))
            columns = sorted(columns_of(table).index(column) for column in unmade_columns_of(table))
            told = table_of(len(rows), len(columns), lambda i, k: table.rows[rows[i]][columns[k]])
            self.same([core(table), core(table).size], [told, (len(rows), len(columns))])

    def test_all_its_rows_and_columns_are_unmade_and_unlike(self):
        for table in TABLES:
            told = core(table)
            self.assertEqual(sorted(rows_of(told)), sorted(unmade_of(told)))
            self.assertEqual(sorted(columns_of(told)), sorted(unmade_columns_of(told)))

    def test_as_many_joined_rows(self):
        for table in TABLES:
            self.assertEqual(len(joined_of(core(table))), len(joined_of(table)))

    def test_rows_and_columns_stay_in_their_sequence(self):
        table = Table.of_lots([(0, 1, 2), (1, 2), (2,), (2,), (0, 1, 2)], 3)
        self.answers(Table.of_lots([(0, 1, 2), (1, 2), (2,)], 3), core, table)

    def test_without_unmade_rows(self):
        for table in EMPTY:
            self.same([core(table), core(table).size], [Table([]), (0, 0)])


class Factors(Case):

    def test_right_has_the_unmade_rows_and_left_tells_which_are_within_each_row(self):
        for table in TABLES + [LARGEST, ~LARGEST]:
            unmade = unmade_of(table)
            rows = rows_of(table)
            left = table_of(table.height, len(unmade), lambda i, j: within(unmade[j], rows[i]))
            told = unmade_factors(table)
            self.same(told, (left, Table.of_lots(unmade, table.width)))
            self.assertEqual(then_of(*told), table)
            self.assertEqual([part.size for part in told], [(table.height, len(unmade)), (len(unmade), table.width)])

    def test_by_position_and_by_name(self):
        table = Table.of_lots([(0, 1), (1,), ()], 2)
        told = (Table.of_lots([(0, 1), (0,), ()], 2), Table.of_lots([(1,), (0, 1)], 2))
        self.answers(told, unmade_factors, table)

    def test_the_made_joins_are_joined_rows_of_right(self):
        for table in TABLES:
            self.assertEqual(joins_of(rows_of(unmade_factors(table)[1])), joined_of(table))
