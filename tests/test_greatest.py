"""Points 34 to 36: tables under a table, the greatest one, and what bars a cell."""

import itertools

from greatestback.behind import opposite, then_all, turned
from greatestback.errors import BadPlace, UnlikeSizes
from greatestback.greatest import back_and_forth, barring_cell, greatest_under, is_greatest_under, is_under
from greatestback.tables import Table
from support import ODD, Case, is_int, sample_tables, sizes, small_tables, tables_near, tables_of_size
from words import back_of, crosswise_of, greatest_under_of, inside_of, table_of

TABLES = list(small_tables(4)) + list(sample_tables(2))
LARGEST = [Table.same(6), ~Table.same(6), Table.filled(6, 6), Table.filled(6, 6, yes=True)]
EMPTY = [Table([]), Table([], width=6), Table([[]] * 6), Table([], width=1)]


def others(table):
    """Some tables crosswise to a table, the greatest one under it among them."""
    greatest = greatest_under_of(table)
    cells = list(itertools.product(range(table.width), range(table.height)))
    less = [table_of(table.width, table.height, lambda k, i: greatest.rows[k][i] and (k, i) != cell) for cell in cells]
    more = [table_of(table.width, table.height, lambda k, i: greatest.rows[k][i] or (k, i) == cell) for cell in cells]
    return [greatest, Table.filled(table.width, table.height), Table.filled(table.width, table.height, yes=True),
            table_of(table.width, table.height, lambda k, i: table.rows[i][k])] + less + more


def bars(table, i, j, k, place):
    """Point 36: the cell (i, j) bars the cell (k, place)."""
    return table.rows[i][k] and table.rows[place][j] and not table.rows[i][j]


class Under(Case):

    def test_back_and_forth(self):
        for table in TABLES:
            for other in others(table)[:12]:
                told = back_of(table, other)
                self.same(back_and_forth(table, other), told)
                self.assertEqual(told.size, table.size)
                self.assertIs(is_under(table, other), inside_of(told, table))

    def test_the_table_is_first_and_last(self):
        table = Table.of_lots([(0,), (0, 1)], 3)
        other = Table.of_lots([(1,), (), (0,)], 2)
        self.answers(Table.of_lots([(0, 1), (0, 1)], 3), back_and_forth, table, other)
        self.answers(Table.of_lots([(1,), (), (1,)], 2), back_and_forth, other, table)
        self.answers(False, is_under, table, other)
        self.answers(True, is_under, table, Table.of_lots([(0,), (), (0, 1)], 2))

    def test_other_must_be_crosswise(self):
        filled = {size: Table.filled(*size) for size in sizes()}
        for size, other in itertools.product(sizes(), sizes()):
            if other != (size[1], size[0]):
                told = {"first": size, "second": other}
                for function in [back_and_forth, is_under, is_greatest_under]:
                    self.refused(UnlikeSizes, told, function, filled[size], filled[other])
        for function in [back_and_forth, is_under, is_greatest_under]:
            told = {"first": (2, 3), "second": (2, 3)}
            self.refused_every_way(UnlikeSizes, told, function, Table.filled(2, 3), Table.filled(2, 3))


class Greatest(Case):

    def test_it_holds_all_tables_under_the_table_and_is_one(self):
        for table in small_tables(6):
            under = [one for one in tables_of_size(table.width, table.height) if inside_of(back_of(table, one), table)]
            greatest = greatest_under(table)
            self.assertIn(greatest, under)
            self.assertTrue(all([inside_of(one, greatest) for one in under]))

    def test_cells(self):
        for table in TABLES + LARGEST:
            self.same(greatest_under(table), greatest_under_of(table))

    def test_it_is_the_opposite_of_a_product_of_three(self):
        for table in TABLES + LARGEST:
            across = turned(table)
            self.same(greatest_under(table), opposite(then_all([across, opposite(table), across])))

    def test_a_row_for_a_column_that_no_row_has_is_all_yes(self):
        table = Table.of_lots([(0,), ()], 3)
        self.answers(Table.of_lots([(0, 1), (0, 1), (0, 1)], 2), greatest_under, table)

    def test_without_rows_or_columns(self):
        for table in EMPTY:
            self.answers(Table.filled(table.width, table.height), greatest_under, table)
            self.same(greatest_under(table).size, (table.width, table.height))

    def test_is_greatest_under(self):
        for table in TABLES + LARGEST[:2]:
            greatest = greatest_under_of(table)
            for other in others(table):
                self.assertIs(is_greatest_under(table, other), other == greatest)
        self.answers(True, is_greatest_under, Table.of_lots([(0,)], 2), Table.of_lots([(0,), (0,)], 1))
        self.answers(False, is_greatest_under, Table.of_lots([(0,)], 2), Table.of_lots([(0,), ()], 1))

    def test_is_greatest_under_of_tables_near_it(self):
        for table in sample_tables(1):
            greatest = greatest_under_of(table)
            near = [one for one in tables_near(greatest) if isinstance(one, Table) and crosswise_of(table, one)]
            self.judges(lambda _, one: one == greatest, is_greatest_under, [table], near)

    def test_example(self):
        table = Table.of_lots([(0,), (0, 1), (1,)], 2)
        self.same([greatest_under(table).row_lots, barring_cell(table, 0, 1)], [[(0,), (2,)], (0, 1)])


class Barring(Case):

    def test_the_first_cell_that_bars(self):
        for table in TABLES + LARGEST:
            greatest = greatest_under_of(table)
            cells = list(itertools.product(range(table.height), range(table.width)))
            for k, place in itertools.product(range(table.width), range(table.height)):
                barring = [cell for cell in cells if bars(table, *cell, k, place)]
                self.same(barring_cell(table, k, place), barring[0] if barring else None)
                self.assertIs(greatest.rows[k][place], not barring)

    def test_by_position_and_by_name(self):
        table = Table.of_lots([(0,), (0, 1), (1,)], 2)
        self.answers((0, 1), barring_cell, table, 0, 2)
        self.answers((2, 0), barring_cell, table, 1, 0)
        self.answers(None, barring_cell, table, 1, 2)

    def test_bad_rows_and_columns(self):
        for table in [Table.filled(2, 6, yes=True), Table.filled(6, 2), Table([[]] * 6), Table([], width=6), Table([])]:
            rows = [number for number in range(6) if number < table.width]
            columns = [number for number in range(6) if number < table.height]
            for odd in ODD:
                if not is_int(odd, 0, table.width - 1):
                    for column in columns[:1] + [6, None, (0,)]:
                        self.refused_every_way(BadPlace, {"place": odd}, barring_cell, table, odd, column)
                if not is_int(odd, 0, table.height - 1):
                    for row in rows[-1:]:
                        self.refused_every_way(BadPlace, {"place": odd}, barring_cell, table, row, odd)
