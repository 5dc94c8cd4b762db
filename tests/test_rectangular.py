"""Point 60: tables whose rows are equal or apart."""

import itertools

from greatestback.errors import NotRectangular
from greatestback.kinorder import kin_order
from greatestback.rectangular import is_rectangular, is_rectangular_fault, rectangles, rectangular_fault, thrice
from greatestback.tables import Table
from greatestback.wayback import leads_back
from support import HUGE, ODD, Case, near, sample_tables, sizes, small_tables
from words import inside_of, lot, rows_of, then_of

TABLES = list(small_tables(6)) + list(sample_tables(4))
MADE = [Table.of_lots(lots, 6) for lots in [
    [(0, 2), (), (1,), (0, 2)], [(5,), (0, 1), (5,), (0, 1), (), (5,)], [(3,), (2,), (1,), (0,), (4, 5)],
    [(0, 1, 2), (3, 4, 5)] * 3, [(), (0,), (0, 1)], [(1, 2), (0,), (3,), (0,), (2, 3)], [(0,), (0,), (0,), (1,), (1,), (0, 1)],
]]
ALL = TABLES + MADE + [Table.same(6), ~Table.same(6)]
EMPTY = [Table([]), Table([], width=6), Table([[]] * 6), Table([[]] * 2), Table.filled(6, 6)]


def faults_of(table):
    """All pairs of rows that are neither equal nor apart, as Python's tuples compare."""
    rows = rows_of(table)
    pairs = [(i, l) for i in range(table.height) for l in range(table.height) if i < l]
    return sorted((i, l) for i, l in pairs if rows[i] != rows[l] and set(rows[i]) & set(rows[l]))


def rectangles_of(table):
    """The blocks of equal rows that are not empty, by the least row number."""
    rows = rows_of(table)
    blocks = {row: lot(i for i, one in enumerate(rows) if one == row) for row in rows if row != ()}
    return sorted(((told, row) for row, told in blocks.items()), key=lambda block: block[0][0])


def turned_of(table):
    return Table(table.columns, width=table.height)


def is_fault_of(table, value):
    if type(value) is not tuple or any(type(item) is not int for item in value):
        return False
    return value in faults_of(table)


RIGHT = [table for table in ALL if faults_of(table) == []]
WRONG = [table for table in ALL if faults_of(table)]


class Rectangular(Case):

    def test_faults(self):
        self.assertTrue(len(RIGHT) > 100 and len(WRONG) > 100)
        for table in ALL:
            told = faults_of(table)
            self.same(rectangular_fault(table), told[0] if told else None)
            self.assertIs(is_rectangular(table), told == [])

    def test_the_first_fault_goes_by_the_first_number(self):
        self.answers((0, 3), rectangular_fault, Table.of_lots([(0,), (1, 2), (2, 3), (0, 4)], 5))
        self.answers((1, 2), rectangular_fault, Table.of_lots([(), (0,), (0, 1)], 2))
        self.answers(None, rectangular_fault, Table.of_lots([(0,), (1,), (0,)], 2))

    def test_empty_rows_equal_rows_and_rows_without_columns(self):
        for table in EMPTY:
            self.answers(None, rectangular_fault, table)
            self.answers(True, is_rectangular, table)
            self.answers([], rectangles, table)
        for height, width in sizes():
            table = Table.filled(height, width, yes=True)
            self.same(is_rectangular(table), True)
            self.same(rectangles(table), rectangles_of(table))
        self.answers([((0, 1, 2), (0,))], rectangles, Table.filled(3, 1, yes=True))
        self.answers([((1, 3), (0,))], rectangles, Table.of_lots([(), (0,), (), (0,)], 1))

    def test_thrice(self):
        for table in ALL:
            told = then_of(then_of(table, turned_of(table)), table)
            self.same(thrice(table), told)
            self.assertTrue(inside_of(table, told))
            self.assertIs(told == table, faults_of(table) == [])
        self.answers(Table.filled(2, 2, yes=True), thrice, Table.of_lots([(0,), (0, 1)], 2))
        self.answers(Table([], width=6), thrice, Table([], width=6))

    def test_the_table_turned_over_leads_back_and_no_thing_is_below_another_one(self):
        for table in RIGHT:
            self.assertIs(leads_back(table, turned_of(table)), True)
            self.same(kin_order(table), Table.same(kin_order(table).height))

    def test_by_position_and_by_name(self):
        self.answers(False, is_rectangular, Table.of_lots([(0,), (0, 1)], 2))
        self.answers(True, is_rectangular, Table.same(2))


class Rectangles(Case):

    def test_word_by_word(self):
        for table in RIGHT:
            self.same(rectangles(table), rectangles_of(table))

    def test_in_the_order_of_the_least_row_and_not_of_the_lots(self):
        table = Table.of_lots([(2, 3), (1,), (), (0,), (1,), (2, 3)], 4)
        self.answers([((0, 5), (2, 3)), ((1, 4), (1,)), ((3,), (0,))], rectangles, table)

    def test_example(self):
        self.same([rectangles(Table.of_lots([(0, 2), (), (1,), (0, 2)], 3)),
                   rectangular_fault(Table.of_lots([(), (0,), (0, 1)], 2))],
                  [[((0, 3), (0, 2)), ((2,), (1,))], (1, 2)])

    def test_not_rectangular(self):
        for table in WRONG:
            self.refused(NotRectangular, {"fault": faults_of(table)[0]}, rectangles, table)
        self.refused_every_way(NotRectangular, {"fault": (1, 2)}, rectangles, Table.of_lots([(), (0,), (0, 1)], 2))


class Judge(Case):

    def test_every_pair_of_numbers(self):
        pairs = list(itertools.product(range(-1, 7), repeat=2)) + [(0, HUGE), (HUGE, HUGE), (-HUGE, 0)]
        for table in ALL[::11] + MADE + EMPTY + [~Table.same(6)]:
            self.judges(is_fault_of, is_rectangular_fault, [table], pairs)

    def test_any_value(self):
        for table in [~Table.same(6), MADE[4], Table.same(3), Table([]), Table.of_lots([(0, 1), (0,)], 2)]:
            right = faults_of(table)[-1:] or [(0, 1)]
            self.judges(is_fault_of, is_rectangular_fault, [table], right + near(right[0]) + ODD)
        self.answers(True, is_rectangular_fault, Table.of_lots([(0, 1), (0,)], 2), (0, 1))
        self.answers(False, is_rectangular_fault, Table.of_lots([(0, 1), (0,)], 2), (1, 0))
        self.answers(False, is_rectangular_fault, Table.of_lots([(0, 1), (0,)], 2), (False, True))

    def test_it_need_not_be_the_first_fault(self):
        self.answers(True, is_rectangular_fault, ~Table.same(6), (4, 5))
