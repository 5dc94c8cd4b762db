"""Points 20 and 21, and point 12 for the first cell."""

import itertools

from greatestback.behind import (
    first_outside, is_inside, middles, opposite, power, then, then_all, through, turned,
)
from greatestback.errors import BadLot, BadPlace, NotSquare, UnlikeSizes
from greatestback.tables import Table
from support import HUGE, ODD, Case, is_int, is_lot, lots_below, sample_tables, sizes, small_tables, tables_of_size

BY_SIZE = [Table.filled(height, width) for height, width in sizes()]
SAMPLE = list(sample_tables(1))


def product_cells(one, other):
    return [[any(one[i, k] and other[k, j] for k in range(one.width)) for j in range(other.width)]
            for i in range(one.height)]


class Then(Case):

    def test_all_products_of_small_tables(self):
        for one in small_tables(4):
            for other in small_tables(4):
                if one.width == other.height and one.height <= 2 and other.width <= 2:
                    self.same(then(one, other).rows, product_cells(one, other))
                    self.same(then(one, other).size, (one.height, other.width))

    def test_products_of_sample_tables(self):
        for one, other in itertools.product(SAMPLE, SAMPLE):
            if one.width == other.height:
                self.same(then(one, other).rows, product_cells(one, other))

    def test_by_position_and_by_name(self):
        one, other = Table.of_lots([(1,), ()], 3), Table.of_lots([(0,), (0, 3), (1,)], 4)
        self.answers(Table.of_lots([(0, 3), ()], 4), then, one, other)

    def test_the_same_table_changes_nothing(self):
        for table in SAMPLE:
            self.same(then(Table.same(table.height), table), table)
            self.same(then(table, Table.same(table.width)), table)

    def test_without_middles_all_cells_are_no(self):
        for height, width in sizes():
            self.same(then(Table([[]] * height), Table([], width=width)), Table.filled(height, width))

    def test_unlike_sizes(self):
        for one, other in itertools.product(BY_SIZE, BY_SIZE):
            if one.width != other.height:
                self.refused(UnlikeSizes, {"first": one.size, "second": other.size}, then, one, other)
        self.refused_every_way(UnlikeSizes, {"first": (2, 3), "second": (2, 3)}, then, Table.filled(2, 3), Table.filled(2, 3))


class Middles(Case):

    def test_all_cells(self):
        for one, other in itertools.product(SAMPLE, SAMPLE):
            if one.width == other.height:
                product = then(one, other)
                for i in range(one.height):
                    for j in range(other.width):
                        told = tuple(k for k in range(one.width) if one[i, k] and other[k, j])
                        self.same(middles(one, other, i, j), told)
                        self.same(product[i, j], told != ())

    def test_by_position_and_by_name(self):
        one, other = Table.of_lots([(), (0, 1, 2)], 3), Table.of_lots([(1,), (), (0, 1)], 2)
        self.answers((0, 2), middles, one, other, 1, 1)
        self.answers((2,), middles, one, other, 1, 0)

    def test_bad_places_whether_or_not_the_tables_fit(self):
        one = Table.filled(2, 3)
        for other in [Table.filled(3, 4), Table.filled(2, 4)]:
            for odd in ODD:
                if not is_int(odd, 0, 1):
                    self.refused_every_way(BadPlace, {"place": odd}, middles, one, other, odd, 0)
                    self.refused_every_way(BadPlace, {"place": odd}, middles, one, other, odd, None)
                if not is_int(odd, 0, 3):
                    self.refused_every_way(BadPlace, {"place": odd}, middles, one, other, 1, odd)

    def test_edges_of_the_range(self):
        one, other = Table.filled(2, 3), Table.filled(3, 4)
        self.same(middles(one, other, 1, 3), ())
        self.refused(BadPlace, {"place": 2}, middles, one, other, 2, 4)
        self.refused(BadPlace, {"place": 4}, middles, one, other, 1, 4)
        self.refused(BadPlace, {"place": -1}, middles, one, other, 0, -1)
        self.refused(BadPlace, {"place": 0}, middles, Table([], width=3), other, 0, 0)
        self.refused(BadPlace, {"place": 0}, middles, one, Table([[]] * 3), 0, 0)

    def test_unlike_sizes(self):
        for one, other in itertools.product(BY_SIZE, BY_SIZE):
            if one.width != other.height and one.height > 0 and other.width > 0:
                self.refused(UnlikeSizes, {"first": one.size, "second": other.size}, middles, one, other, 0, 0)
        self.refused_every_way(UnlikeSizes, {"first": (2, 3), "second": (2, 2)}, middles,
                               Table.filled(2, 3), Table.filled(2, 2), 1, 1)

    def test_example(self):
        table = Table.of_lots([(0, 1), (0, 2), (1, 2)], 3)
        self.same([middles(table, table, 0, 2), through((0, 2), table), through((), table)], [(1,), (0, 1, 2), ()])


class ThenAll(Case):

    def test_one_table(self):
        for table in SAMPLE:
            self.answers(table, then_all, [table])
            self.same(then_all((table,)), table)

    def test_two_to_eight_tables(self):
        steps = [Table.of_lots([(1,), (2,), (0,)], 3), Table.of_lots([(0,), (0, 1), (2,)], 3), Table.of_lots([(0, 2), ()], 3)]
        chain = [steps[2], steps[0], steps[1], steps[0], steps[0], steps[1], steps[1], steps[0]]
        result = chain[0]
        for count in range(2, 9):
            result = Table(product_cells(result, chain[count - 1]), width=chain[count - 1].width)
            self.answers(result, then_all, chain[:count])
            self.same(then_all(tuple(chain[:count])), result)

    def test_sides_that_change(self):
        tables = [Table.filled(2, 3, yes=True), Table.filled(3, 0), Table([], width=6), Table.filled(6, 1, yes=True)]
        self.answers(Table.filled(2, 1), then_all, tables)
        self.same(then_all([Table([]), Table([], width=4), Table.filled(4, 6)]), Table([], width=6))

    def test_the_least_pair_that_does_not_fit(self):
        two_three, three_four, four_four, one_one = [Table.filled(*size) for size in [(2, 3), (3, 4), (4, 4), (1, 1)]]
        for tables, first, second in [
            ([two_three, two_three], (2, 3), (2, 3)),
            ([two_three, three_four, three_four], (3, 4), (3, 4)),
            ([two_three, three_four, four_four, four_four, one_one, two_three], (4, 4), (1, 1)),
            ([one_one, two_three, one_one], (1, 1), (2, 3)),
            ([four_four] * 7 + [one_one], (4, 4), (1, 1)),
        ]:
            self.refused_every_way(UnlikeSizes, {"first": first, "second": second}, then_all, tables)
            self.refused(UnlikeSizes, {"first": first, "second": second}, then_all, tuple(tables))


class Power(Case):

    def test_each_power_from_the_one_before(self):
        squares = [table for table in SAMPLE if table.height == table.width] + list(tables_of_size(2, 2))
        for table in squares:
            told = Table([[i == k for k in range(table.width)] for i in range(table.height)], width=table.width)
            for exponent in range(65):
                self.same(power(table, exponent), told)
                told = Table(product_cells(told, table), width=table.width)

    def test_by_position_and_by_name(self):
        around = Table.of_lots([(1,), (2,), (0,)], 3)
        self.answers(Table.of_lots([(2,), (0,), (1,)], 3), power, around, 2)
        self.answers(Table.same(3), power, around, 0)
        self.answers(around, power, around, 64)

    def test_bad_exponents_go_first(self):
        for table in [Table.same(2), Table.filled(2, 3), Table([])]:
            for odd in ODD:
                if not is_int(odd, 0, 64):
                    self.refused_every_way(BadPlace, {"place": odd}, power, table, odd)

    def test_not_square_for_every_exponent(self):
        for table in BY_SIZE:
            if table.height != table.width:
                for exponent in [0, 1, 2, 64]:
                    self.refused_every_way(NotSquare, {"sides": table.size}, power, table, exponent)


class Through(Case):

    def test_all_lots(self):
        for table in SAMPLE:
            for lot in lots_below(table.height):
                told = tuple(k for k in range(table.width) if any(table[i, k] for i in lot))
                self.same(through(lot, table), told)

    def test_by_position_and_by_name(self):
        self.answers((0, 2), through, (0, 1), Table.of_lots([(2,), (0,), (1,)], 3))

    def test_bad_lots_are_those_not_below_the_height(self):
        for table in [Table.filled(2, 5), Table([], width=6), Table([[]] * 6)]:
            for odd in ODD:
                if not is_lot(odd, table.height):
                    self.refused_every_way(BadLot, {"lot": odd}, through, odd, table)
                else:
                    self.same(through(odd, table), ())


class Turned(Case):

    def test_turned_and_opposite(self):
        for table in list(small_tables(4)) + SAMPLE:
            over = turned(table)
            self.same(over.size, (table.width, table.height))
            self.same(over.rows, table.columns)
            self.same(turned(over), table)
            against = opposite(table)
            self.same(against.size, table.size)
            self.same(against.rows, [[not cell for cell in row] for row in table.rows])

    def test_by_position_and_by_name(self):
        table = Table.of_lots([(0, 2), (2,)], 3)
        self.answers(Table.of_lots([(0,), (), (0, 1)], 2), turned, table)
        self.answers(Table.of_lots([(1,), (0, 1)], 3), opposite, table)


class Inside(Case):

    def test_all_pairs_of_small_tables(self):
        for size in [(0, 0), (0, 3), (2, 0), (1, 1), (1, 3), (2, 2), (3, 1)]:
            tables = list(tables_of_size(*size))
            for first in tables:
                for second in tables:
                    outside = [(i, k) for i in range(size[0]) for k in range(size[1]) if first[i, k] and not second[i, k]]
                    self.same(is_inside(first, second), not outside)
                    self.same(first_outside(first, second), outside[0] if outside else None)

    def test_row_order(self):
        second = Table.of_lots([(0,), (0,)], 3)
        self.answers((0, 2), first_outside, Table.of_lots([(2,), (1,)], 3), second)
        self.answers((1, 1), first_outside, Table.of_lots([(0,), (1, 2)], 3), second)
        self.answers(None, first_outside, Table.of_lots([(), (0,)], 3), second)

    def test_by_position_and_by_name(self):
        one, other = Table.filled(2, 2), Table.same(2)
        self.answers(True, is_inside, one, other)
        self.answers(False, is_inside, other, one)

    def test_unlike_sizes(self):
        for one, other in itertools.permutations(BY_SIZE, 2):
            told = {"first": one.size, "second": other.size}
            self.refused(UnlikeSizes, told, is_inside, one, other)
            self.refused(UnlikeSizes, told, first_outside, one, other)
        self.refused_every_way(UnlikeSizes, {"first": (0, 1), "second": (0, 2)}, is_inside, Table([], width=1), Table([], width=2))
        self.refused_every_way(UnlikeSizes, {"first": (0, 1), "second": (0, 2)}, first_outside,
                               Table([], width=1), Table([], width=2))

    def test_numbers_far_outside(self):
        self.refused(BadPlace, {"place": HUGE}, power, Table.same(1), HUGE)
