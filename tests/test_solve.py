"""Points 40 to 42: the three kinds of equations for a table X."""

import itertools
import random

from greatestback.errors import NoWayBack, UnlikeSizes
from greatestback.solve import (
    greatest_both, greatest_left, greatest_right, is_bar_both, is_bar_left, is_bar_right, solve_both, solve_by_way,
    solve_left, solve_right,
)
from greatestback.tables import Table
from support import ODD, Case, is_int, near, sample_tables, sizes, small_tables, tables_of_size
from words import (
    bad_of, columns_of, first_bad_paper_of, greatest_under_of, inside_of, rows_of, table_of, then_of, within,
)

THREE = Table.of_lots([(0, 1), (0, 2), (1, 2)], 3)
FEW = list(small_tables(4))
SAMPLES = list(sample_tables(2))


def by_height(tables):
    return [(one, other) for one, other in itertools.product(tables, tables) if one.height == other.height]


def by_width(tables):
    return [(one, other) for one, other in itertools.product(tables, tables) if one.width == other.width]


def chosen(items, many, seed):
    """Some of the items, the same ones in each run."""
    items = list(items)
    return items if len(items) <= many else random.Random(seed).sample(items, many)


def both_kinds(tables):
    return [(first, second, target) for first, target in by_height(tables) for second in tables
            if second.width == target.width]


RIGHT = chosen(by_height(FEW), 700, 1) + chosen(by_height(SAMPLES), 300, 2)
LEFT = chosen(by_width(FEW), 700, 3) + chosen(by_width(SAMPLES), 300, 4)
BOTH = chosen(both_kinds(chosen(FEW, 60, 5)), 700, 6) + chosen(both_kinds(chosen(SAMPLES, 60, 7)), 300, 8)


def product_right(first, target, way):
    return then_of(first, way)


def product_left(second, target, way):
    return then_of(way, second)


def product_both(first, second, target, way):
    return then_of(then_of(first, way), second)


def size_right(first, target):
    return (first.width, target.width)


def size_left(second, target):
    return (target.height, second.height)


def size_both(first, second, target):
    return (first.width, second.height)


def cells_right(first, target):
    """The cells of the greatest X as point 40 tells them."""
    columns, wanted = columns_of(first), columns_of(target)
    return table_of(first.width, target.width, lambda k, j: within(columns[k], wanted[j]))


def cells_left(second, target):
    rows, wanted = rows_of(second), rows_of(target)
    return table_of(target.height, second.height, lambda i, one: within(rows[one], wanted[i]))


def cells_both(first, second, target):
    one, other, wanted = first.rows, second.rows, target.rows
    cells = list(itertools.product(range(target.height), range(target.width)))
    return table_of(first.width, second.height,
                    lambda k, m: all(wanted[i][j] for i, j in cells if one[i][k] and other[m][j]))


def bars_of(target, product):
    """The yes cells of the target that are no cells of the product, in row order."""
    cells = itertools.product(range(target.height), range(target.width))
    return [(i, k) for i, k in cells if target.rows[i][k] and not product.rows[i][k]]


KINDS = [
    (greatest_right, solve_right, is_bar_right, product_right, size_right, cells_right, RIGHT),
    (greatest_left, solve_left, is_bar_left, product_left, size_left, cells_left, LEFT),
    (greatest_both, solve_both, is_bar_both, product_both, size_both, cells_both, BOTH),
]


class Greatest(Case):

    def test_cells(self):
        for greatest, _, _, _, size, cells, equations in KINDS:
            for tables in equations:
                self.same(greatest(*tables), cells(*tables))
                self.assertEqual(greatest(*tables).size, size(*tables))

    def test_it_holds_every_x_whose_product_is_inside_the_target(self):
        for greatest, solve, _, product, size, _, equations in KINDS:
            for tables in chosen([one for one in equations if size(*one)[0] * size(*one)[1] <= 4], 250, 9):
                target = tables[-1]
                told = greatest(*tables)
                every = [(way, product(*tables, way)) for way in tables_of_size(*size(*tables))]
                inside = [way for way, result in every if inside_of(result, target)]
                self.assertIn(told, inside)
                self.assertTrue(all([inside_of(way, told) for way in inside]))
                solved = target in [result for _, result in every]
                self.assertIs(solve(*tables)[1] is None, solved)

    def test_by_position_and_by_name(self):
        first, target = Table.of_lots([(0,), (0, 1)], 2), Table.of_lots([(0, 2), (0, 1, 2)], 3)
        self.answers(Table.of_lots([(0, 2), (0, 1, 2)], 3), greatest_right, first, target)
        self.answers(Table.of_lots([(0,), ()], 2), greatest_left, first, Table.of_lots([(0,), (1,)], 2))
        self.answers(Table.of_lots([(0,), (0,)], 2), greatest_both, first, first, Table.of_lots([(0,), (0,)], 2))

    def test_without_rows_or_columns(self):
        for height, width, many in itertools.product([0, 2], repeat=3):
            first, target = Table.filled(height, width), Table.filled(height, many)
            self.same(solve_right(first, target), (Table.filled(width, many, yes=True), None))
            second, target = Table.filled(height, width), Table.filled(many, width)
            self.same(solve_left(second, target), (Table.filled(many, height, yes=True), None))


class Solving(Case):

    def test_the_pair_and_what_bars(self):
        for greatest, solve, is_bar, product, _, cells, equations in KINDS:
            barred = 0
            for tables in equations:
                way = cells(*tables)
                bars = bars_of(tables[-1], product(*tables, way))
                self.same(solve(*tables), (way, bars[0] if bars else None))
                height, width = tables[-1].height, tables[-1].width
                for cell in itertools.product(range(-1, height + 1), range(-1, width + 1)):
                    self.assertIs(is_bar(*tables, cell), cell in bars)
                barred += len(bars) > 1
            self.assertGreater(barred, 20)

    def test_a_solution_is_told_by_its_product(self):
        for _, solve, _, product, _, _, equations in KINDS:
            solved = 0
            for tables in equations:
                way, cell = solve(*tables)
                self.assertIs(product(*tables, way) == tables[-1], cell is None)
                solved += cell is None
            self.assertGreater(solved, 20)

    def test_any_value_may_be_judged(self):
        for _, _, is_bar, product, _, cells, equations in KINDS:
            for tables in chosen(equations, 25, 10):
                target = tables[-1]
                bars = bars_of(target, product(*tables, cells(*tables)))
                values = ODD + [other for cell in bars[:3] for other in near(cell)]
                self.judges(lambda *args: is_cell(args[-1], target) and args[-1] in bars, is_bar, tables, values)
        target = Table.filled(2, 2, yes=True)
        for value in [(0, 0), (0, 1), (1, 1)]:
            self.answers(True, is_bar_right, Table.filled(2, 2), target, value)
        for value in [(False, 0), (0, True), [0, 0], (0, 0, 0), (2, 0), (0, -1), 0, None, ((0, 0),)]:
            self.answers(False, is_bar_right, Table.filled(2, 2), target, value)
            self.answers(False, is_bar_left, Table.filled(2, 2), target, value)
            self.answers(False, is_bar_both, Table.filled(2, 2), target, target, value)

    def test_by_position_and_by_name(self):
        first = Table.of_lots([(0,), (0, 1)], 2)
        self.answers((Table.filled(2, 1), (0, 0)), solve_right, first, Table.of_lots([(0,), ()], 1))
        self.answers((Table.of_lots([()], 2), (0, 1)), solve_left, first, Table.of_lots([(1,)], 2))
        self.answers((Table.of_lots([(0,), (0,)], 2), (0, 1)), solve_both, first, Table.same(2),
                     Table.of_lots([(0, 1), (0,)], 2))
        self.answers(True, is_bar_left, first, Table.of_lots([(1,)], 2), (0, 1))
        self.answers(True, is_bar_both, Table.filled(1, 1), Table.same(1), Table.same(1), (0, 0))

    def test_example(self):
        way, cell = solve_right(Table.of_lots([(0,), (0, 1)], 2), Table.of_lots([(0,), ()], 1))
        self.same([way.rows, cell], [[[False], [False]], (0, 0)])


def is_cell(value, table):
    if type(value) is not tuple or len(value) != 2:
        return False
    return is_int(value[0], 0, table.height - 1) and is_int(value[1], 0, table.width - 1)


class Sizes(Case):

    def test_right_and_by_way(self):
        filled = {size: Table.filled(*size) for size in sizes()}
        for one, other in itertools.product(sizes(), sizes()):
            if one[0] != other[0]:
                told = {"first": one, "second": other}
                for function in [greatest_right, solve_right, solve_by_way]:
                    self.refused(UnlikeSizes, told, function, filled[one], filled[other])
                self.refused(UnlikeSizes, told, is_bar_right, filled[one], filled[other], (0, 0))

    def test_left(self):
        filled = {size: Table.filled(*size) for size in sizes()}
        for one, other in itertools.product(sizes(), sizes()):
            if one[1] != other[1]:
                told = {"first": one, "second": other}
                for function in [greatest_left, solve_left]:
                    self.refused(UnlikeSizes, told, function, filled[one], filled[other])
                self.refused(UnlikeSizes, told, is_bar_left, filled[one], filled[other], (0, 0))

    def test_both_tells_heights_before_widths(self):
        filled = {size: Table.filled(*size) for size in itertools.product([0, 1, 3, 6], repeat=2)}
        for one, other, target in itertools.product(filled, filled, filled):
            told = None
            if one[0] != target[0]:
                told = {"first": one, "second": target}
            elif other[1] != target[1]:
                told = {"first": other, "second": target}
            if told is not None:
                tables = [filled[one], filled[other], filled[target]]
                for function in [greatest_both, solve_both]:
                    self.refused(UnlikeSizes, told, function, *tables)
                self.refused(UnlikeSizes, told, is_bar_both, *tables, None)

    def test_whatever_the_paper_is(self):
        one, other = Table.filled(2, 3), Table.filled(3, 2)
        told = {"first": (2, 3), "second": (3, 2)}
        for odd in ODD:
            self.refused_every_way(UnlikeSizes, told, is_bar_right, one, other, odd)
            self.refused_every_way(UnlikeSizes, told, is_bar_left, one, other, odd)
            self.refused_every_way(UnlikeSizes, told, is_bar_both, one, one, other, odd)
            self.refused_every_way(UnlikeSizes, told, is_bar_both, other, one, other, odd)

    def test_by_position_and_by_name(self):
        one, other = Table.filled(2, 3), Table.filled(3, 2)
        told = {"first": (2, 3), "second": (3, 2)}
        for function in [greatest_right, greatest_left, solve_right, solve_left, solve_by_way]:
            self.refused_every_way(UnlikeSizes, told, function, one, other)
        for function in [greatest_both, solve_both]:
            self.refused_every_way(UnlikeSizes, told, function, one, one, other)


class ByWay(Case):

    def test_it_is_a_solution_just_where_there_is_one(self):
        kinds = set()
        for first, target in RIGHT:
            if bad_of(first) == []:
                way = then_of(greatest_under_of(first), target)
                solved = then_of(first, way) == target
                kinds.add((solved, way == cells_right(first, target)))
                self.same(solve_by_way(first, target), way if solved else None)
                self.assertIs(solved, solve_right(first, target)[1] is None)
        self.assertEqual(len(kinds), 4)

    def test_every_target_that_has_a_solution(self):
        for first in [Table.same(2), Table.of_lots([(0,), (0, 1), ()], 2), Table.filled(3, 2, yes=True)]:
            reached = [then_of(first, way) for way in tables_of_size(first.width, 2)]
            for target in tables_of_size(first.height, 2):
                self.assertIs(solve_by_way(first, target) is not None, target in reached)

    def test_by_position_and_by_name(self):
        first = Table.of_lots([(0,), (0, 1)], 2)
        self.answers(Table.of_lots([(0,), (0, 1)], 2), solve_by_way, first, first * first)
        self.answers(None, solve_by_way, first, Table.of_lots([(0,), ()], 1))

    def test_no_way_back(self):
        paper = {"paper": ((0, 1), (0, 2), (1, 2))}
        self.refused_every_way(NoWayBack, paper, solve_by_way, THREE, THREE)
        self.refused_every_way(NoWayBack, paper, solve_by_way, THREE, Table([[]] * 3))
        for first in [table for table in sample_tables(4, seed=4) if bad_of(table)]:
            told = {"paper": first_bad_paper_of(first)}
            self.refused(NoWayBack, told, solve_by_way, first, Table.filled(first.height, 1))

    def test_unlike_sizes_go_before_no_way_back(self):
        for size in [(2, 3), (0, 0), (6, 6), (4, 3)]:
            told = {"first": (3, 3), "second": size}
            self.refused_every_way(UnlikeSizes, told, solve_by_way, THREE, Table.filled(*size))

    def test_a_solution_of_a_table_without_a_way_back_is_not_looked_for(self):
        self.same(solve_right(THREE, THREE)[1], None)
        self.refused(NoWayBack, {"paper": ((0, 1), (0, 2), (1, 2))}, solve_by_way, THREE, THREE)
