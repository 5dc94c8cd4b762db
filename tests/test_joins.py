"""Points 22 to 24."""

from greatestback.errors import BadLot, BadPlace
from greatestback.joins import (
    crossing, crossing_back, greatest_without, inner, is_joined, joined_columns, joined_rows, rows_within,
)
from greatestback.tables import Table
from support import ODD, Case, is_int, is_lot, lot_order, lots_below, row_sets, sample_tables, small_tables

TABLES = list(small_tables(4)) + list(sample_tables(2))
FEW = list(sample_tables(1, seed=5))
# Two with 64 joined rows, where each choice of rows gives another lot; and rows that lack one number each.
LARGEST = [Table.same(6), ~Table.same(6), Table.of_lots([(5,), (0,), (4,), (1,), (3,), (2,)], 6)]


def joins_of_choices(sets):
    """Point 22 word by word: one choice of rows after another."""
    joins = [set()]
    for one in sets:
        joins = joins + [join | one for join in joins]
    return lot_order([tuple(sorted(join)) for join in joins])


def columns_as_sets(table):
    return [{i for i in range(table.height) if column[i]} for column in table.columns]


class Joined(Case):

    def test_rows_and_columns(self):
        for table in TABLES + LARGEST:
            self.answers(joins_of_choices(row_sets(table)), joined_rows, table)
            self.answers(joins_of_choices(columns_as_sets(table)), joined_columns, table)

    def test_as_many_rows_as_columns_and_at_most_64(self):
        for table in TABLES + LARGEST:
            count = len(joined_rows(table))
            self.assertEqual(len(joined_columns(table)), count)
            self.assertLessEqual(count, 64)
        self.assertEqual(len(joined_rows(Table.same(6))), 64)

    def test_the_empty_lot_is_joined_without_rows_too(self):
        for table in [Table([]), Table([], width=6), Table([[]] * 6), Table.filled(3, 3)]:
            self.same([joined_rows(table), joined_columns(table)], [[()], [()]])
            self.same(is_joined(table, ()), True)

    def test_equal_lots_are_counted_once(self):
        self.same(joined_rows(Table.of_lots([(0,), (0,), (0, 1), (1,)], 2)), [(), (0,), (1,), (0, 1)])

    def test_is_joined(self):
        for table in TABLES + LARGEST[:1]:
            told = joins_of_choices(row_sets(table))
            for lot in lots_below(6):
                self.assertIs(is_joined(table, lot), lot in told)
        self.answers(True, is_joined, Table.of_lots([(0,), (1,)], 3), (0, 1))
        self.answers(False, is_joined, Table.of_lots([(0,), (1,)], 3), (2,))

    def test_is_joined_of_odd_values(self):
        for table in [Table([]), Table.same(2), Table.same(6), Table.of_lots([(0, 1)], 6)]:
            told = joins_of_choices(row_sets(table))
            for value in ODD:
                self.answers(is_lot(value, table.width) and value in told, is_joined, table, value)


class Inner(Case):

    def test_rows_within_inner_row_and_crossing(self):
        for table in TABLES + LARGEST[:1]:
            rows = row_sets(table)
            joined = joins_of_choices(rows)
            for lot in lots_below(table.width):
                within = tuple(i for i, row in enumerate(rows) if row <= set(lot))
                self.same(rows_within(table, lot), within)
                self.same(crossing(table, lot), tuple(i for i in range(table.height) if i not in within))
                self.same(inner(table, lot), tuple(sorted(set().union(*[rows[i] for i in within]))))
                below = [join for join in joined if set(join) <= set(lot)]
                self.same(inner(table, lot), below[-1])
                self.assertTrue(all(set(inner(table, lot)) >= set(join) for join in below))

    def test_greatest_without(self):
        for table in TABLES:
            joined = joins_of_choices(row_sets(table))
            for column in range(table.width):
                without = [join for join in joined if column not in join]
                self.answers(without[-1], greatest_without, table, column)

    def test_by_position_and_by_name(self):
        table = Table.of_lots([(0,), (0, 1), (1, 2)], 3)
        self.answers((0, 1), rows_within, table, (0, 1))
        self.answers((0,), inner, table, (0, 2))
        self.answers((0, 1), greatest_without, table, 2)
        self.answers((1, 2), crossing, table, (0,))
        self.answers((1, 2), crossing_back, table, (0, 1))

    def test_bad_lots(self):
        for table in [Table.filled(6, 2), Table.filled(2, 6), Table([[]] * 2), Table([], width=2)]:
            for odd in ODD:
                if not is_lot(odd, table.width):
                    for function in [rows_within, inner, crossing]:
                        self.refused_every_way(BadLot, {"lot": odd}, function, table, odd)
                if not is_lot(odd, table.height):
                    self.refused_every_way(BadLot, {"lot": odd}, crossing_back, table, odd)

    def test_bad_columns(self):
        for table in [Table.filled(6, 2), Table.filled(2, 6), Table([[]] * 2), Table([], width=2)]:
            for odd in ODD:
                if is_int(odd, 0, table.width - 1):
                    self.same(greatest_without(table, odd), ())
                else:
                    self.refused_every_way(BadPlace, {"place": odd}, greatest_without, table, odd)

    def test_example(self):
        table = Table.of_lots([(0,), (0, 1), (1, 2)], 3)
        self.same([joined_rows(table), inner(table, (0, 2)), crossing(table, (0, 1))],
                  [[(), (0,), (0, 1), (1, 2), (0, 1, 2)], (0,), (2,)])


class Crossing(Case):

    def test_crossings_are_joined_columns_of_lots_that_are_not_joined_too(self):
        for table in TABLES:
            columns = joins_of_choices(columns_as_sets(table))
            for lot in lots_below(table.width):
                self.assertIn(crossing(table, lot), columns)

    def test_crossing_back(self):
        for table in TABLES:
            columns = columns_as_sets(table)
            for lot in lots_below(table.height):
                self.same(crossing_back(table, lot), tuple(k for k, one in enumerate(columns) if not one <= set(lot)))

    def test_the_crossing_back_of_the_crossing_of_a_joined_row_is_that_row(self):
        for table in TABLES + LARGEST:
            joined = joins_of_choices(row_sets(table))
            crossings = [crossing(table, row) for row in joined]
            self.same([crossing_back(table, lot) for lot in crossings], joined)
            self.same(lot_order(crossings), joins_of_choices(columns_as_sets(table)))
