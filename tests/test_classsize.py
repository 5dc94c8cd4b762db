"""Points 56 and 57: the tables that have the same joins, and their likenesses."""

import itertools

from greatestback.classsize import class_by_trying, class_size, class_tables, likeness_of, same_joins
from greatestback.errors import NoWayBack, TooMany
from greatestback.kinorder import kin_order
from greatestback.likenesses import likenesses, placing_then
from greatestback.ordertable import order_of_pairs
from greatestback.tables import Table
from support import Case, sample_tables, sizes, small_tables, tables_near, tables_of_size
from words import (
    bad_of, class_table_of, first_bad_paper_of, is_likeness_of, kin_order_of, likenesses_of, orders_below, remembered,
    same_joins_of, some_orders, then_of, unmade_of,
)

ALL = list(small_tables(6)) + list(sample_tables(5, seed=9))
FEW = [table for table in ALL if len(unmade_of(table)) <= 5]
BACK = [table for table in FEW if bad_of(table) == []]
BAD = [table for table in FEW if bad_of(table)]
EMPTY = [Table([]), Table([], width=6), Table([[]] * 6), Table.filled(6, 6)]
THREE = Table.of_lots([(0, 1), (0, 2), (1, 2)], 3)
# Five unmade rows and six of them, with a way back and without one.
FIVE = [Table.same(5), Table.of_lots([(0,), (1,), (2,), (3,), (4,), (0, 4)], 6),
        order_of_pairs(5, [(number + 1, number) for number in range(4)])]
FIVE_BAD = [Table.of_lots([(0, 1), (0, 2), (1, 2), (3,), (4,)], 5), Table.of_lots([(0, 1), (0, 2), (1, 2), (3,), (4,)], 6)]
SIX = [Table.same(6), order_of_pairs(6, [(number + 1, number) for number in range(5)])]
SIX_BAD = [~Table.same(6), Table.of_lots([(0, 1), (0, 2), (1, 2), (3,), (4,), (5,)], 6)]


@remembered
def class_of(table):
    """The tables of the class, one for each likeness of the kin order."""
    order = kin_order_of(table)
    return [class_table_of(table, placing) for placing in likenesses_of(order, order)]


@remembered
def tried_of(table):
    """All tables of the size that have the same joins, in cell order."""
    return [one for one in tables_of_size(table.height, table.width) if same_joins_of(table, one)]


def cells_of(table):
    return [cell for row in table.rows for cell in row]


class SameJoins(Case):

    def test_small_tables(self):
        tables = list(small_tables(4))
        for first, second in itertools.product(tables, tables):
            if first.size == second.size or first.height + second.height == 3:
                self.assertIs(same_joins(first, second), same_joins_of(first, second))

    def test_larger_tables(self):
        for table in sample_tables(2, seed=3):
            others = [one for one in tables_near(table) if isinstance(one, Table)]
            mixed = [Table(table.rows[::-1], width=table.width), Table([row[::-1] for row in table.rows], width=table.width)]
            for other in others[::3] + mixed + [table]:
                self.assertIs(same_joins(table, other), same_joins_of(table, other))

    def test_equal_joined_rows_alone_or_equal_joined_columns_alone_are_not_enough(self):
        tall = Table.of_lots([(0,), (), (1,)], 2)
        for first, second in [(tall, Table.of_lots([(0,), (1,), ()], 2)), (tall, Table.of_lots([(0,), (1,), (1,)], 2))]:
            self.answers(False, same_joins, first, second)
            self.answers(False, same_joins, *[Table(one.columns, width=3) for one in (first, second)])
        self.answers(True, same_joins, tall, Table.of_lots([(1,), (), (0,)], 2))

    def test_unlike_sizes(self):
        for size, other in itertools.product(sizes(), sizes()):
            self.assertIs(same_joins(Table.filled(*size), Table.filled(*other)), size == other)
        # The joined rows are equal, and so are the joined columns.
        self.answers(False, same_joins, Table.of_lots([(0,), ()], 1), Table.of_lots([(0,)], 1))
        self.answers(False, same_joins, Table([]), Table([[]]))


class ClassTables(Case):

    def test_word_by_word(self):
        for table in BACK:
            told = class_of(table)
            self.same([class_tables(table), class_size(table)], [told, len(told)])
            self.same(told[0], table)
            self.assertEqual(len({tuple(one) for one in told}), len(told))

    def test_they_are_what_trying_finds(self):
        for table in [one for one in BACK if one.height * one.width <= 6] + [Table.same(3)]:
            self.same(sorted(class_tables(table), key=cells_of), tried_of(table))

    def test_as_many_as_the_likenesses_of_the_kin_order(self):
        for table in BACK:
            self.assertEqual(class_size(table), len(likenesses(kin_order(table))))
        self.same([class_size(Table.same(many)) for many in range(6)], [1, 1, 2, 6, 24, 120])
        self.same([class_size(table) for table in EMPTY], [1] * 4)

    def test_each_table_of_the_class_has_the_same_class(self):
        for table in BACK[::7]:
            told = sorted(class_of(table), key=cells_of)
            for other in told[:6]:
                self.same(sorted(class_tables(other), key=cells_of), told)
                self.same(class_tables(other)[0], other)

    def test_of_an_order_the_unmade_rows_are_numbered_in_lot_order(self):
        for order in orders_below(3) + [one for one in some_orders(3) if one.height == 5]:
            self.same(class_tables(order), class_of(order))
        # Its rows are not in lot order: thing 1 is the bottom one of two.
        order = Table.of_lots([(0, 1), (1,), (2,), (2, 3)], 4)
        self.answers([order, Table.of_lots([(2, 3), (2,), (1,), (0, 1)], 4)], class_tables, order)
        self.answers((1, 0, 3, 2), likeness_of, order, Table.of_lots([(2, 3), (2,), (1,), (0, 1)], 4))

    def test_made_rows_and_equal_rows(self):
        table = Table.of_lots([(0,), (0, 1), (), (1,), (0,)], 3)
        self.answers([table, Table.of_lots([(1,), (0, 1), (), (0,), (1,)], 3)], class_tables, table)
        self.answers(2, class_size, table)

    def test_by_position_and_by_name(self):
        self.answers([Table.same(2), ~Table.same(2)], class_tables, Table.same(2))
        self.answers(6, class_size, Table.same(3))
        for table in EMPTY:
            self.answers([table], class_tables, table)

    def test_example(self):
        table = Table.same(2)
        self.same([[one.row_lots for one in class_tables(table)], likeness_of(table, Table.of_lots([(1,), (0,)], 2))],
                  [[[(0,), (1,)], [(1,), (0,)]], (1, 0)])
        self.same(likeness_of(Table.same(3), Table.of_lots([(1,), (2,), (0,)], 3)), (1, 2, 0))


class Likeness(Case):

    def test_of_each_table_of_the_class(self):
        for table in BACK:
            order = kin_order_of(table)
            for placing, one in list(zip(likenesses_of(order, order), class_of(table)))[:24]:
                self.same(likeness_of(table, one), placing)

    def test_of_any_other_table_there_is_none(self):
        for table in [one for one in BACK if one.height * one.width <= 6]:
            told = class_of(table)
            for other in list(tables_of_size(table.height, table.width))[::3]:
                if other not in told:
                    self.assertIsNone(likeness_of(table, other))
        for table in BACK[::20]:
            for other in [one for one in tables_near(table) if isinstance(one, Table)]:
                if other not in class_of(table):
                    self.assertIsNone(likeness_of(table, other))

    def test_of_tables_of_other_sizes_there_is_none(self):
        for size, other in itertools.product(sizes(), sizes()):
            expected = () if size == other else None
            self.same(likeness_of(Table.filled(*size), Table.filled(*other)), expected)

    def test_six_unmade_rows(self):
        table = Table.same(6)
        for placing in list(itertools.permutations(range(6)))[::11]:
            self.same(likeness_of(table, Table.of_lots([(number,) for number in placing], 6)), placing)
        self.answers((5, 4, 3, 2, 1, 0), likeness_of, table, Table.of_lots([(5,), (4,), (3,), (2,), (1,), (0,)], 6))
        self.answers(None, likeness_of, table, ~table)
        for order in some_orders(4):
            turned = Table([row[::-1] for row in order.rows[::-1]])
            told = likeness_of(order, turned)
            self.assertIs(told is None, not same_joins_of(order, turned))
            self.same(likeness_of(order, order), tuple(range(order.height)))
            if told is not None:
                self.assertIs(is_likeness_of(kin_order_of(order), kin_order_of(order), told), True)
                self.same(class_table_of(order, told), turned)

    def test_by_position_and_by_name(self):
        self.answers((1, 0), likeness_of, Table.same(2), ~Table.same(2))
        self.answers(None, likeness_of, Table.same(2), Table.filled(2, 2))

    def test_no_way_back_whatever_the_other_table_is(self):
        for table in BAD[:12] + FIVE_BAD + SIX_BAD:
            told = {"paper": first_bad_paper_of(table)}
            for other in [table, Table([]), Table.same(6), THREE, Table.filled(table.height, table.width)]:
                self.refused_every_way(NoWayBack, told, likeness_of, table, other)


class Products(Case):

    def test_tables_of_the_class_of_a_table_that_is_its_own_square(self):
        squares = [one for one in BACK if one.height == one.width and then_of(one, one) == one]
        self.assertGreater(len(squares), 20)
        for table in squares + [Table.same(4), FIVE[2]]:
            told = class_of(table)[:24]
            for first, second in itertools.product(told, told):
                product = then_of(first, second)
                self.assertIs(same_joins(table, product), True)
                self.same(likeness_of(table, product),
                          placing_then(likeness_of(table, first), likeness_of(table, second)))

    def test_first_then_second(self):
        first, second = Table.of_lots([(1,), (2,), (0,)], 3), Table.of_lots([(0,), (2,), (1,)], 3)
        self.same(likeness_of(Table.same(3), first * second), (2, 1, 0))
        self.same(likeness_of(Table.same(3), second * first), (1, 0, 2))


class Refusals(Case):

    def test_no_way_back(self):
        self.assertGreater(len(BAD), 10)
        for table in BAD + FIVE_BAD:
            for function in [class_tables, class_size]:
                self.refused_every_way(NoWayBack, {"paper": first_bad_paper_of(table)}, function, table)

    def test_five_unmade_rows(self):
        for table in FIVE:
            self.assertEqual(len(unmade_of(table)), 5)
            self.same([class_tables(table), class_size(table)], [class_of(table), len(class_of(table))])

    def test_six_unmade_rows_with_a_way_back_and_without_one(self):
        self.assertEqual([bad_of(table) == [] for table in SIX + SIX_BAD], [True, True, False, False])
        for table in SIX + SIX_BAD:
            for function in [class_tables, class_size]:
                self.refused_every_way(TooMany, {"many": 6, "limit": 5}, function, table)


class ByTrying(Case):

    def test_all_tables_in_cell_order(self):
        tables = list(small_tables(4)) + [one for one in ALL if one.height * one.width <= 9][::4]
        for table in tables + [THREE, Table.same(3)]:
            told = tried_of(table)
            self.same(class_by_trying(table), told)
            self.assertEqual(told, sorted(told, key=cells_of))

    def test_also_where_none_leads_back(self):
        told = class_by_trying(THREE)
        self.same(told, tried_of(THREE))
        self.assertEqual(len(told), 6)

    def test_nine_cells_and_more(self):
        for height, width in sizes():
            for table in [Table.filled(height, width), Table.filled(height, width, yes=True)]:
                if height * width > 9:
                    told = {"many": height * width, "limit": 9}
                    self.refused_every_way(TooMany, told, class_by_trying, table)
                else:
                    self.same(class_by_trying(table), [table])
        # Too many unmade rows are no limit here, and no way back need be.
        self.refused(TooMany, {"many": 36, "limit": 9}, class_by_trying, ~Table.same(6))
        self.refused(TooMany, {"many": 12, "limit": 9}, class_by_trying, Table.of_lots([(0, 1), (0, 2), (1, 2)], 4))

    def test_by_position_and_by_name(self):
        self.answers([~Table.same(2), Table.same(2)], class_by_trying, Table.same(2))
