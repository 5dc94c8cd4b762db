"""Points 50 to 52: orders, their faults, down lots and up lots, and sums of two orders."""

import itertools
import random

from greatestback.errors import BadLot, BadPlace, NotOrder, NotSquare, TooMany
from greatestback.ordertable import (
    beside, direct_pairs, down_lots, down_of, is_down_lot, is_order, order_fault, order_of_pairs, up_lots, upon,
)
from greatestback.tables import Table
from support import HUGE, ODD, Case, is_int, is_lot, lots_below, near, sample_tables, sizes, tables_of_size
from words import columns_of, fault_of, joined_of, joins_of, orders_below, some_orders, table_of

SMALL = orders_below(4)
ORDERS = SMALL + some_orders()
CHAIN = Table.of_lots([tuple(range(count + 1)) for count in range(6)], 6)
# The same table of side 6: no thing is below another one.
APART = Table.same(6)
NO_ORDERS = [
    (Table.filled(1, 1), ("self", 0)), (Table.filled(6, 6, yes=True), ("both", 0, 1)),
    (Table.of_lots([(0, 1), (1, 2), (2,)], 3), ("through", 0, 1, 2)), (~Table.same(2), ("self", 0)),
]
NOT_SQUARE = [Table.filled(1, 2), Table([], width=6), Table([[]] * 2), Table.filled(6, 5, yes=True)]


def below(order, high, low):
    return high != low and order.rows[high][low]


def direct_of(order):
    things = range(order.height)
    return [(i, j) for i in things for j in things
            if below(order, i, j) and not any(below(order, i, k) and below(order, k, j) for k in things)]


def down_lots_of(order):
    things = range(order.height)
    return [lot for lot in lots_below(order.height)
            if all(j in lot for i in lot for j in things if order.rows[i][j])]


def up_lots_of(order):
    things = range(order.height)
    return [lot for lot in lots_below(order.height)
            if all(i in lot for j in lot for i in things if order.rows[i][j])]


def reached_of(many, pairs):
    """The things reached from each thing by one or more pairs, or by none."""
    reached = {i: {i} for i in range(many)}
    for _ in range(many):
        for i, j in pairs:
            for told in reached.values():
                if i in told:
                    told.add(j)
    return table_of(many, many, lambda i, j: j in reached[i])


class Faults(Case):

    def test_every_table_of_up_to_three_things(self):
        for many in range(4):
            for table in tables_of_size(many, many):
                told = fault_of(table)
                self.same(order_fault(table), told)
                self.assertIs(is_order(table), told is None)

    def test_how_many_orders_there_are(self):
        self.assertEqual([len([one for one in SMALL if one.height == many]) for many in range(5)], [1, 1, 3, 19, 219])

    def test_larger_tables(self):
        kinds = set()
        for table in [one for one in sample_tables(6) if one.height == one.width] + some_orders() + near_orders():
            told = fault_of(table)
            kinds.add(told and told[0])
            self.same(order_fault(table), told)
            self.assertIs(is_order(table), told is None)
        self.assertEqual(kinds, {None, "self", "both", "through"})

    def test_the_sequence_of_the_kinds_and_the_first_of_each(self):
        self.answers(("self", 1), order_fault, Table.of_lots([(0, 1, 2), (0,), (0,)], 3))
        self.answers(("both", 0, 2), order_fault, Table.of_lots([(0, 1, 2), (1, 2), (0, 1, 2)], 3))
        self.answers(("through", 0, 1, 2), order_fault, Table.of_lots([(0, 1, 3), (1, 2), (2,), (2, 3)], 4))
        self.answers(None, order_fault, CHAIN)
        self.answers(True, is_order, APART)
        for table, fault in NO_ORDERS:
            self.answers(fault, order_fault, table)
            self.answers(False, is_order, table)

    def test_no_things(self):
        self.answers(None, order_fault, Table([]))
        self.answers(True, is_order, Table([]))
        self.same([direct_pairs(Table([])), down_lots(Table([])), up_lots(Table([]))], [[], [()], [()]])
        self.same([down_of(Table([]), ()), is_down_lot(Table([]), ())], [(), True])

    def test_not_square(self):
        for height, width in sizes():
            if height != width:
                for yes in [False, True]:
                    table = Table.filled(height, width, yes=yes)
                    self.refused_every_way(NotSquare, {"sides": (height, width)}, order_fault, table)
                    self.answers(False, is_order, table)


def near_orders():
    """Orders with one cell changed."""
    changed = []
    for order in some_orders()[:8]:
        for i, k in itertools.product(range(order.height), repeat=2):
            rows = order.rows
            rows[i][k] = not rows[i][k]
            changed.append(Table(rows))
    return changed


class MustBeOrders(Case):

    def test_each_function_that_takes_an_order(self):
        for table, fault in NO_ORDERS + [(one, fault_of(one)) for one in near_orders() if fault_of(one)][::9]:
            for function in [direct_pairs, down_lots, up_lots]:
                self.refused_every_way(NotOrder, {"fault": fault}, function, table)
            for odd in [(), (0,), None, 0]:
                self.refused_every_way(NotOrder, {"fault": fault}, is_down_lot, table, odd)
            self.refused_every_way(NotOrder, {"fault": fault}, down_of, table, ())
        for table in NOT_SQUARE:
            sides = {"sides": (table.height, table.width)}
            for function in [direct_pairs, down_lots, up_lots]:
                self.refused_every_way(NotSquare, sides, function, table)
            self.refused_every_way(NotSquare, sides, is_down_lot, table, ())
            self.refused_every_way(NotSquare, sides, down_of, table, ())

    def test_is_down_lot_whatever_the_value_is(self):
        for odd in ODD:
            self.refused(NotOrder, {"fault": ("self", 0)}, is_down_lot, Table.filled(2, 2), odd)
            self.refused(NotSquare, {"sides": (2, 3)}, is_down_lot, Table.filled(2, 3), odd)

    def test_down_of_bad_lots_goes_first(self):
        for table in [CHAIN, Table.same(2), Table.filled(2, 2), Table.filled(2, 6), Table.filled(6, 2)] + NOT_SQUARE:
            for odd in ODD:
                if not is_lot(odd, table.height):
                    self.refused_every_way(BadLot, {"lot": odd}, down_of, table, odd)
        self.refused(NotSquare, {"sides": (2, 6)}, down_of, Table.filled(2, 6), (1,))
        self.refused(NotOrder, {"fault": ("self", 0)}, down_of, Table.filled(2, 2), (1,))

    def test_not_square_of_either_goes_before_not_order_of_either(self):
        good, wrong, wide = Table.same(2), Table.filled(3, 3), Table.filled(1, 2)
        for function in [beside, upon]:
            self.refused_every_way(NotSquare, {"sides": (1, 2)}, function, wrong, wide)
            self.refused_every_way(NotSquare, {"sides": (1, 2)}, function, wide, wrong)
            self.refused_every_way(NotSquare, {"sides": (1, 2)}, function, wide, Table.filled(3, 1))
            self.refused_every_way(NotSquare, {"sides": (3, 1)}, function, Table.filled(3, 1), wide)
            self.refused_every_way(NotSquare, {"sides": (1, 2)}, function, good, wide)
            self.refused_every_way(NotOrder, {"fault": ("self", 0)}, function, good, wrong)
            self.refused_every_way(NotOrder, {"fault": ("self", 0)}, function, wrong, good)
            both = Table.filled(3, 3, yes=True)
            self.refused_every_way(NotOrder, {"fault": ("both", 0, 1)}, function, both, wrong)
            self.refused_every_way(NotOrder, {"fault": ("self", 0)}, function, wrong, both)
            for large in [Table.filled(6, 6), Table.filled(6, 5)]:
                error = NotOrder if large.width == 6 else NotSquare
                told = {"fault": ("self", 0)} if large.width == 6 else {"sides": (6, 5)}
                self.refused(error, told, function, large, good)
                self.refused(error, told, function, good, large)


class Pairs(Case):

    def test_what_is_reached(self):
        source = random.Random(5)
        kinds = set()
        for many, count, _ in itertools.product(range(7), [0, 1, 3, 5, 8], range(6)):
            pairs = [(source.randrange(many), source.randrange(many)) for _ in range(count if many else 0)]
            pairs = [pair if source.randrange(9) else pair[::-1] for pair in map(tuple, map(sorted, pairs))]
            told = reached_of(many, pairs)
            fault = fault_of(told)
            kinds.add(fault is None)
            if fault is None:
                self.answers(told, order_of_pairs, many, pairs)
                self.same(order_of_pairs(many, tuple(pairs)), told)
            else:
                self.refused_every_way(NotOrder, {"fault": fault}, order_of_pairs, many, pairs)
        self.assertEqual(kinds, {True, False})

    def test_an_order_is_that_of_its_direct_pairs(self):
        for order in ORDERS:
            self.same(order_of_pairs(order.height, direct_pairs(order)), order)

    def test_the_longest_ways_and_repeats(self):
        steps = [(i + 1, i) for i in range(5)]
        self.same(order_of_pairs(6, steps), CHAIN)
        self.same(order_of_pairs(6, steps[::-1] * 14), CHAIN)
        self.same(order_of_pairs(2, [(1, 0), (1, 0), (1, 1), (0, 0)]), Table.of_lots([(0,), (0, 1)], 2))
        self.same([order_of_pairs(0, []), order_of_pairs(6, ())], [Table([]), APART])
        self.refused(NotOrder, {"fault": ("both", 0, 1)}, order_of_pairs, 6, steps + [(0, 5)])
        self.refused(NotOrder, {"fault": ("both", 2, 4)}, order_of_pairs, 5, [(4, 2), (2, 4)])

    def test_bad_counts_go_before_bad_pairs(self):
        for odd in ODD + [HUGE]:
            if not is_int(odd, 0, 6):
                for pairs in [[], [None], [(0, 1), (1, 0)], [(0, HUGE)]]:
                    self.refused_every_way(BadPlace, {"place": odd}, order_of_pairs, odd, pairs)

    def test_the_first_bad_pair_goes_before_no_order(self):
        for many in [0, 1, 3, 6]:
            for odd in ODD + [(0, 3), (3, 0), (0, -1), [0, 0], (0, 0, 0), (False, 0), (0, True)]:
                good = type(odd) is tuple and len(odd) == 2 and all(is_int(one, 0, many - 1) for one in odd)
                if not good:
                    some = [(0, many - 1), (many - 1, 0)] if many else []
                    self.refused_every_way(BadPlace, {"place": odd}, order_of_pairs, many, some + [odd, None])
                    self.refused_every_way(BadPlace, {"place": odd}, order_of_pairs, many, (odd,))
        self.refused(BadPlace, {"place": (0, 0)}, order_of_pairs, 0, [(0, 0)])

    def test_direct_pairs(self):
        for order in ORDERS:
            self.answers(direct_of(order), direct_pairs, order)
        self.same(direct_pairs(CHAIN), [(i + 1, i) for i in range(5)])

    def test_example(self):
        order = order_of_pairs(3, [(2, 0), (2, 1)])
        self.same([order.row_lots, direct_pairs(order), down_lots(order)],
                  [[(0,), (1,), (0, 1, 2)], [(2, 0), (2, 1)], [(), (0,), (1,), (0, 1), (0, 1, 2)]])
        self.refused(NotOrder, {"fault": ("both", 0, 1)}, order_of_pairs, 2, [(0, 1), (1, 0)])


class DownAndUp(Case):

    def test_down_lots_are_the_joined_rows_and_up_lots_the_joined_columns(self):
        for order in ORDERS + [CHAIN, APART]:
            down, up = down_lots_of(order), up_lots_of(order)
            self.same([down_lots(order), up_lots(order)], [down, up])
            self.same([joined_of(order), joins_of(columns_of(order))], [down, up])

    def test_is_down_lot(self):
        for order in ORDERS[::3] + [CHAIN, APART]:
            down = down_lots_of(order)
            for lot in lots_below(6):
                self.assertIs(is_down_lot(order, lot), lot in down)
            values = ODD + [other for lot in down[:4] for other in near(lot)]
            self.judges(lambda _, value: is_lot(value, order.height) and value in down, is_down_lot, [order], values)

    def test_down_of_is_the_least_down_lot_that_holds_the_lot(self):
        for order in ORDERS + [CHAIN, APART]:
            down = down_lots_of(order)
            for lot in lots_below(order.height):
                holding = [one for one in down if set(lot) <= set(one)]
                self.same(down_of(order, lot), holding[0])
                self.assertTrue(all(set(holding[0]) <= set(one) for one in holding))

    def test_by_position_and_by_name(self):
        order = Table.of_lots([(0,), (0, 1), (2,)], 3)
        self.answers([(), (0,), (2,), (0, 1), (0, 2), (0, 1, 2)], down_lots, order)
        self.answers([(), (1,), (2,), (0, 1), (1, 2), (0, 1, 2)], up_lots, order)
        self.answers(True, is_down_lot, order, (0, 2))
        self.answers(False, is_down_lot, order, (1, 2))
        self.answers((0, 1), down_of, order, (1,))


class Sums(Case):

    def test_cells_and_counts(self):
        orders = [one for one in ORDERS if one.height <= 3] + ORDERS[60::17] + [CHAIN, APART, Table([])]
        for one, other in itertools.product(orders, orders):
            many = one.height + other.height
            if many <= 6:
                least, first, second = one.height, one.rows, other.rows
                told = table_of(many, many, lambda i, j: first[i][j] if i < least and j < least else
                                i >= least and j >= least and second[i - least][j - least])
                self.same(beside(one, other), told)
                told = table_of(many, many, lambda i, j: told.rows[i][j] or i >= least > j)
                self.same(upon(other, one), told)
                self.assertTrue(is_order(beside(one, other)) and is_order(upon(other, one)))
                counts = len(down_lots_of(one)), len(down_lots_of(other))
                self.assertEqual(len(down_lots(beside(one, other))), counts[0] * counts[1])
                self.assertEqual(len(down_lots(upon(other, one))), counts[0] + counts[1] - 1)
            else:
                for function in [beside, upon]:
                    self.refused(TooMany, {"many": many, "limit": 6}, function, one, other)

    def test_six_things_and_seven(self):
        for many in range(7):
            one, other, more = Table.same(many), Table.same(6 - many), Table.same(min(6, 7 - many))
            self.same([beside(one, other), upon(one, other).height], [APART, 6])
            if many:
                for function in [beside, upon]:
                    self.refused_every_way(TooMany, {"many": 7, "limit": 6}, function, one, more)
        for function in [beside, upon]:
            self.refused_every_way(TooMany, {"many": 12, "limit": 6}, function, CHAIN, APART)

    def test_whose_numbers_come_first(self):
        one, other = Table.of_lots([(0,), (0, 1)], 2), Table.same(1)
        self.answers(Table.of_lots([(0,), (0, 1), (2,)], 3), beside, one, other)
        self.answers(Table.of_lots([(0,), (1,), (1, 2)], 3), beside, other, one)
        self.answers(Table.of_lots([(0,), (0, 1), (0, 1, 2)], 3), upon, one, other)
        self.answers(Table.of_lots([(0, 1), (1,), (0, 1, 2)], 3), upon, other, Table.of_lots([(0, 1), (1,)], 2))
        self.answers(Table.of_lots([(0,), (0, 1, 2), (0, 2)], 3), upon, Table.of_lots([(0, 1), (1,)], 2), other)

    def test_with_no_things(self):
        for order in ORDERS[:40]:
            for function in [beside, upon]:
                self.same([function(order, Table([])), function(Table([]), order)], [order, order])
