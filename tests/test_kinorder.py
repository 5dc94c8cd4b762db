"""Points 53 and 54: the kin order, the order paper, and the down lots of joined rows."""

import itertools

from greatestback.errors import BadLot, NotJoined, NotOrder, NotSquare, NoWayBack
from greatestback.kin import are_kin, is_kin_paper, kin_paper
from greatestback.kinorder import down_of_row, is_kin_order, kin_order, order_paper, order_things, row_of_down
from greatestback.ordertable import down_lots
from greatestback.tables import Table
from support import ODD, Case, is_lot, lots_below, near, sample_tables, small_tables
from words import (
    bad_of, fault_of, first_bad_paper_of, is_kin_paper_of, join, joined_of, kin_order_of, order_paper_of, orders_below,
    some_orders, unmade_of, within,
)

ALL = list(small_tables(6)) + list(sample_tables(5, seed=4)) + [Table.same(6), ~Table.same(6)]
BACK = [table for table in ALL if bad_of(table) == []]
BAD = [table for table in ALL if bad_of(table)]
LARGEST = Table.same(6)
EMPTY = [Table([]), Table([], width=6), Table([[]] * 6), Table.filled(6, 6)]
THREE = Table.of_lots([(0, 1), (0, 2), (1, 2)], 3)
EXAMPLE = Table.of_lots([(1, 2), (2,), (0, 2), (0, 1, 2)], 3)


class KinOrder(Case):

    def test_things_and_cells(self):
        for table in BACK:
            told = kin_order_of(table)
            self.same([kin_order(table), order_things(table)], [told, unmade_of(table)])
            self.same(fault_of(told), None)

    def test_the_table_is_kin_to_it_by_the_order_paper(self):
        for table in BACK:
            told = order_paper_of(table)
            self.same(order_paper(table), told)
            self.assertIs(is_kin_paper_of(table, kin_order_of(table), told), True)
            self.assertIs(is_kin_paper(table, kin_order(table), told), True)
            self.assertIs(is_kin_order(table, kin_order(table), told), True)

    def test_the_order_paper_need_not_be_the_kin_paper(self):
        unlike = [table for table in BACK if len(unmade_of(table)) <= 5
                  and kin_paper(table, kin_order(table)) != order_paper(table)]
        self.assertGreater(len(unlike), 5)

    def test_of_an_order(self):
        for order in orders_below(3) + some_orders():
            told = kin_order(order)
            self.assertEqual(sorted(map(len, told.row_lots)), sorted(map(len, order.row_lots)))
            self.assertIs(are_kin(order, told) if order.height <= 5 else True, True)
            self.same(told, kin_order_of(order))
        order = Table.of_lots([(0, 1), (1,)], 2)
        self.answers(Table.of_lots([(0,), (0, 1)], 2), kin_order, order)

    def test_no_things(self):
        for table in EMPTY:
            self.answers(Table([]), kin_order, table)
            self.answers([], order_things, table)
            self.answers(tuple(Table.filled(*size) for size in [(table.width, 0), (0, table.width), (0, table.height),
                                                               (table.height, 0)]), order_paper, table)
            self.same([part.size for part in order_paper(table)],
                      [(table.width, 0), (0, table.width), (0, table.height), (table.height, 0)])
            self.same([down_of_row(table, ()), row_of_down(table, ())], [(), ()])

    def test_example(self):
        self.same([order_things(EXAMPLE), kin_order(EXAMPLE).row_lots],
                  [[(2,), (0, 2), (1, 2)], [(0,), (0, 1), (0, 2)]])

    def test_by_position_and_by_name(self):
        self.answers([(2,), (0, 2), (1, 2)], order_things, EXAMPLE)
        self.answers(Table.of_lots([(0,), (0, 1), (0, 2)], 3), kin_order, EXAMPLE)
        self.answers((Table.of_lots([(1,), (2,), (0,)], 3), Table.of_lots([(2,), (0, 2), (1, 2)], 3),
                      Table.of_lots([(1,), (2,), (0,)], 4), Table.of_lots([(0, 2), (0,), (0, 1), (0, 1, 2)], 3)),
                     order_paper, EXAMPLE)

    def test_of_64_joined_rows(self):
        self.answers(LARGEST, kin_order, LARGEST)
        self.answers((LARGEST, LARGEST, LARGEST, LARGEST), order_paper, LARGEST)


class DownLots(Case):

    def test_the_down_lot_of_a_joined_row_and_back(self):
        for table in BACK:
            unmade, joined = unmade_of(table), joined_of(table)
            told = [tuple(i for i, one in enumerate(unmade) if within(one, row)) for row in joined]
            self.same([down_of_row(table, row) for row in joined], told)
            self.same([row_of_down(table, lot) for lot in told], joined)
            self.assertEqual(sorted(told), sorted(down_lots(kin_order(table))))

    def test_a_lot_of_things_need_not_be_a_down_lot(self):
        for table in BACK[::5] + [LARGEST]:
            unmade = unmade_of(table)
            for lot in lots_below(len(unmade)):
                self.same(row_of_down(table, lot), join([unmade[i] for i in lot]))
        self.answers((0, 2), row_of_down, EXAMPLE, (1,))
        self.answers((0, 1, 2), row_of_down, EXAMPLE, (1, 2))
        self.answers((0, 1), down_of_row, EXAMPLE, (0, 2))
        self.answers((0, 1, 2), down_of_row, EXAMPLE, (0, 1, 2))


class Refusals(Case):

    def test_no_way_back(self):
        self.assertGreater(len(BAD), 10)
        for table in BAD:
            told = {"paper": first_bad_paper_of(table)}
            for function in [kin_order, order_things, order_paper]:
                self.refused_every_way(NoWayBack, told, function, table)
            for row in joined_of(table)[::3]:
                self.refused_every_way(NoWayBack, told, down_of_row, table, row)
            for lot in lots_below(len(unmade_of(table)))[::3]:
                self.refused_every_way(NoWayBack, told, row_of_down, table, lot)

    def test_bad_lots_then_not_joined_then_no_way_back(self):
        for table in [EXAMPLE, THREE, Table.of_lots([(0, 1), (0, 2), (1, 2)], 4), LARGEST, ~LARGEST] + EMPTY:
            for odd in ODD:
                if not is_lot(odd, table.width):
                    self.refused_every_way(BadLot, {"lot": odd}, down_of_row, table, odd)
                elif odd not in joined_of(table):
                    self.refused_every_way(NotJoined, {"lot": odd}, down_of_row, table, odd)
        self.refused(NotJoined, {"lot": (0,)}, down_of_row, THREE, (0,))
        self.refused(NoWayBack, {"paper": ((0, 1), (0, 2), (1, 2))}, down_of_row, THREE, (0, 1))

    def test_row_of_down_takes_a_lot_below_the_count_of_unmade_rows(self):
        tables = [EXAMPLE, THREE, Table.of_lots([(0, 1), (0, 2), (1, 2)], 6), LARGEST, ~LARGEST] + EMPTY
        for table in tables + [Table.filled(6, 6, yes=True), Table.of_lots([(0,), (0,), (1,), (0, 1)], 6)]:
            many = len(unmade_of(table))
            for odd in ODD:
                if not is_lot(odd, many):
                    self.refused_every_way(BadLot, {"lot": odd}, row_of_down, table, odd)
                elif bad_of(table):
                    self.refused(NoWayBack, {"paper": first_bad_paper_of(table)}, row_of_down, table, odd)
                else:
                    self.same(row_of_down(table, odd), join([unmade_of(table)[i] for i in odd]))


class Judge(Case):

    def test_a_paper_with_a_part_changed_and_any_value(self):
        for table in BACK[::60] + [EXAMPLE, LARGEST]:
            order, paper = kin_order_of(table), order_paper_of(table)
            self.judges(is_kin_paper_of, is_kin_order, [table, order], [paper] + near(paper) + ODD)

    def test_other_orders_and_other_papers(self):
        one, other = Table.of_lots([(0,), (0, 1)], 2), Table.of_lots([(0, 1), (1,)], 2)
        for table, order in itertools.product([one, other, EXAMPLE, Table.filled(2, 2)], [one, other, Table([])]):
            paper = kin_paper(table, order)
            self.same(is_kin_order(table, order, paper), paper is not None)
            if paper is not None:
                self.answers(True, is_kin_order, table, order, paper)
                self.answers(False, is_kin_order, table, order, list(paper))

    def test_where_none_leads_back_no_paper_is_right(self):
        for table in BAD[:10]:
            for paper in ODD + [order_paper_of(table)]:
                self.assertIs(is_kin_order(table, Table.same(3), paper), False)

    def test_an_order_must_be_one_whatever_the_paper_is(self):
        wrong = [(Table.filled(2, 2), NotOrder, {"fault": ("self", 0)}), (THREE, NotOrder, {"fault": ("self", 1)}),
                 (Table.filled(2, 2, yes=True), NotOrder, {"fault": ("both", 0, 1)}),
                 (Table.of_lots([(0, 1), (1, 2), (2,)], 3), NotOrder, {"fault": ("through", 0, 1, 2)}),
                 (Table.filled(2, 3), NotSquare, {"sides": (2, 3)}), (Table([], width=1), NotSquare, {"sides": (0, 1)})]
        for order, error, told in wrong:
            for table in [EXAMPLE, THREE, order]:
                for odd in ODD[::4] + [order_paper(EXAMPLE)]:
                    self.refused_every_way(error, told, is_kin_order, table, order, odd)
