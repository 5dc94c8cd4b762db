"""Points 11 to 13, and of point 20 what the class Table has."""

from greatestback.errors import BadLot, BadPlace, BadTable, UnlikeSizes
from greatestback.tables import Table
from support import HUGE, ODD, Case, is_int, is_lot, sample_tables, sizes, small_tables, tables_of_size

YES, NO = True, False
BAD_SIDES = [value for value in ODD if not is_int(value, 0, 6)]


def first_bad_row(rows, width):
    """The words of point 13, written again: the number of the first bad row, "none", or None."""
    if type(rows) not in (list, tuple) or len(rows) > 6:
        return None
    if width is not None and not is_int(width, 0, 6):
        return None
    for number, row in enumerate(rows):
        if type(row) not in (list, tuple) or len(row) > 6 or any(type(cell) is not bool for cell in row):
            return number
        if len(row) != (len(rows[0]) if width is None else width):
            return number
    return "none"


class Making(Case):

    def test_rows_of_lists_and_of_tuples(self):
        for height, width in sizes():
            row = [number % 2 == 0 for number in range(width)]
            for rows in [[row] * height, [tuple(row)] * height, tuple([row] * height), (tuple(row),) * height]:
                for table in [Table(rows, width=width), Table(width=width, rows=rows)]:
                    self.same(table.rows, [row] * height)
                    self.same(table.size, (height, width))
                if height > 0:
                    self.same(Table(rows).size, (height, width))

    def test_without_rows_the_width_is_0_unless_told(self):
        self.same([Table([]).size, Table(()).size, Table(rows=[], width=None).size], [(0, 0)] * 3)
        self.same(Table([], width=6).size, (0, 6))

    def test_rows_without_columns(self):
        self.same([Table([[], []]).size, Table([()] * 6).size, Table([[]], width=0).size], [(2, 0), (6, 0), (1, 0)])

    def test_later_changes_of_the_rows_have_no_effect(self):
        row = [True, False]
        rows = [row, row]
        table = Table(rows)
        row[0] = False
        rows.append([True, True])
        self.same(table.rows, [[True, False], [True, False]])

    def test_odd_rows_and_odd_widths(self):
        for rows in ODD:
            for width in ODD:
                bad = first_bad_row(rows, width)
                if bad == "none":
                    self.same(Table(rows, width=width).rows, [list(row) for row in rows])
                else:
                    self.refused(BadTable, {"row": bad}, Table, rows, width=width)
                    self.refused(BadTable, {"row": bad}, Table, width=width, rows=rows)

    def test_the_first_bad_row_is_told(self):
        for odd in ODD:
            for rows in [[odd], [odd, [YES]], [[YES], odd], ([NO], odd, [YES, NO]), [[NO], [YES, NO], odd], [[], odd]]:
                for width in [None, 0, 1, 2]:
                    bad = first_bad_row(rows, width)
                    if bad == "none":
                        self.same(Table(rows, width=width).height, len(rows))
                    else:
                        self.refused(BadTable, {"row": bad}, Table, rows, width=width)

    def test_an_odd_cell(self):
        for cell in ODD:
            rows = [[YES, NO], [NO, cell], [NO]]
            self.refused(BadTable, {"row": 2 if type(cell) is bool else 1}, Table, rows)

    def test_too_many_rows_and_too_long_rows(self):
        self.refused(BadTable, {"row": None}, Table, [[YES]] * 7)
        self.refused(BadTable, {"row": None}, Table, [None] * 7)
        self.refused(BadTable, {"row": 0}, Table, [[YES] * 7])
        self.refused(BadTable, {"row": 0}, Table, [[YES] * 7] * 6)
        self.refused(BadTable, {"row": 1}, Table, [[YES] * 6, [YES] * 7])
        self.refused(BadTable, {"row": None}, Table, [[YES] * 7], width=7)
        self.refused(BadTable, {"row": None}, Table, [[YES] * 7] * 7, width=6)

    def test_a_bad_width_goes_before_a_bad_row(self):
        self.refused(BadTable, {"row": None}, Table, [None], width=7)
        self.refused(BadTable, {"row": None}, Table, [[YES]], width=True)
        self.refused(BadTable, {"row": None}, Table, [[]], width=False)
        self.refused(BadTable, {"row": 0}, Table, [[YES]], width=0)
        self.refused(BadTable, {"row": 1}, Table, [[YES], [YES, NO]], width=1)

    def test_examples(self):
        self.refused(BadTable, {"row": 1}, Table, [[True, False], [True]])
        self.same([Table([], width=3).size, Table([[], []]).columns, Table.filled(0, 2).columns], [(0, 3), [], [[], []]])


class Filled(Case):

    def test_every_size(self):
        for height, width in sizes():
            for yes in [YES, NO]:
                self.same(Table.filled(height, width, yes=yes).rows, [[yes] * width for _ in range(height)])
                self.same(Table.filled(yes=yes, width=width, height=height).size, (height, width))
            self.answers(Table([[NO] * width] * height, width=width), Table.filled, height, width)

    def test_bad_sides(self):
        for bad in BAD_SIDES:
            self.refused_every_way(BadPlace, {"place": bad}, Table.filled, bad, 2)
            self.refused_every_way(BadPlace, {"place": bad}, Table.filled, 2, bad)
            self.refused_every_way(BadPlace, {"place": bad}, Table.filled, bad, None)

    def test_rows_are_not_one_list(self):
        rows = Table.filled(2, 2).rows
        rows[0][0] = YES
        self.same(rows, [[YES, NO], [NO, NO]])


class Same(Case):

    def test_every_side(self):
        for side in range(7):
            self.answers(Table([[i == k for k in range(side)] for i in range(side)], width=side), Table.same, side)
            self.same(Table.same(side).size, (side, side))

    def test_bad_sides(self):
        for bad in BAD_SIDES:
            self.refused_every_way(BadPlace, {"place": bad}, Table.same, bad)


class OfLots(Case):

    def test_rows_have_the_lots_in_that_sequence(self):
        table = Table([[YES, NO, YES], [NO, NO, NO], [NO, YES, NO], [YES, NO, YES]])
        lots = [(0, 2), (), (1,), (0, 2)]
        self.answers(table, Table.of_lots, lots, 3)
        self.answers(table, Table.of_lots, tuple(lots), 3)
        for table in sample_tables():
            self.answers(table, Table.of_lots, table.row_lots, table.width)

    def test_no_lots(self):
        for width in range(7):
            self.answers(Table([], width=width), Table.of_lots, (), width)

    def test_cells_are_bools(self):
        self.same(Table.of_lots([(0,)], 2).rows, [[True, False]])

    def test_too_many_lots_go_first(self):
        for lots in [[()] * 7, [None] * 7, ((),) * 70]:
            for width in [0, 6, 7, None]:
                self.refused_every_way(BadTable, {"row": None}, Table.of_lots, lots, width)
        self.answers(Table([[]] * 6), Table.of_lots, [()] * 6, 0)

    def test_a_bad_width_goes_before_a_bad_lot(self):
        for bad in BAD_SIDES:
            for lots in [[], [()], [None], ((7,),)]:
                self.refused_every_way(BadPlace, {"place": bad}, Table.of_lots, lots, bad)

    def test_the_first_bad_lot_is_told(self):
        for width in [0, 2, 6]:
            for value in ODD:
                if is_lot(value, width):
                    self.same(Table.of_lots([(), value], width).row_lots, [(), value])
                else:
                    self.refused_every_way(BadLot, {"lot": value}, Table.of_lots, [(), value, None], width)
                    self.refused_every_way(BadLot, {"lot": value}, Table.of_lots, (value, (6,)), width)


class Properties(Case):

    def test_of_small_and_of_sample_tables(self):
        for table in list(small_tables(6)) + list(sample_tables()):
            rows = [[table[i, k] for k in range(table.width)] for i in range(table.height)]
            columns = [[table[i, k] for i in range(table.height)] for k in range(table.width)]
            self.same(table.rows, rows)
            self.same(table.columns, columns)
            self.same(table.size, (table.height, table.width))
            self.same(table.many_yes, sum(cell for row in rows for cell in row) + 0)
            self.same(table.row_lots, [tuple(k for k in range(table.width) if row[k]) for row in rows])
            self.same(table.column_lots, [tuple(i for i in range(table.height) if column[i]) for column in columns])

    def test_integers_are_no_bools(self):
        for table in [Table([]), Table([[YES]]), Table([[NO]]), Table([[]])]:
            self.same([type(value) for value in [table.height, table.width, table.many_yes]], [int, int, int])

    def test_of_one_table(self):
        table = Table([[NO, YES, YES], [NO, NO, NO]])
        self.same([table.height, table.width, table.many_yes, table.size], [2, 3, 2, (2, 3)])
        self.same([table.row_lots, table.column_lots], [[(1, 2), ()], [(), (0,), (0,)]])
        self.same(table.columns, [[NO, NO], [YES, NO], [YES, NO]])

    def test_lots_are_neither_sorted_nor_joined_together(self):
        table = Table([[NO, YES], [YES, NO], [NO, YES]])
        self.same(table.row_lots, [(1,), (0,), (1,)])
        self.same(Table([[YES, YES], [NO, NO]]).column_lots, [(0,), (0,)])

    def test_sides_without_cells(self):
        self.same([Table([], width=3).columns, Table([], width=3).rows, Table([], width=3).column_lots],
                  [[[], [], []], [], [(), (), ()]])
        self.same([Table([[]] * 3).columns, Table([[]] * 3).rows, Table([[]] * 3).row_lots],
                  [[], [[], [], []], [(), (), ()]])

    def test_returned_lists_are_new(self):
        for table in [Table([[YES, NO], [NO, NO]]), Table([], width=2), Table([[]])]:
            rows, columns, text = table.rows, table.columns, str(table)
            for told in [table.rows, table.columns]:
                for line in told:
                    line.append(YES)
                told.append([YES])
            table.row_lots.append((0,))
            table.column_lots.append((0,))
            self.same([table.rows, table.columns, str(table)], [rows, columns, text])
            self.same([len(table.row_lots), len(table.column_lots)], list(table.size))


class Cells(Case):

    def test_each_cell(self):
        for table in sample_tables():
            for i, row in enumerate(table.rows):
                for k, cell in enumerate(row):
                    self.same(table[i, k], cell)
                    self.same(table[(i, k)], cell)

    def test_bad_indexes(self):
        for table in [Table([[YES, NO, YES], [NO, NO, NO]]), Table.filled(6, 6), Table([]), Table([[]]), Table([], width=2)]:
            for index in ODD:
                good = type(index) is tuple and len(index) == 2
                good = good and is_int(index[0], 0, table.height - 1) and is_int(index[1], 0, table.width - 1)
                if good:
                    self.same(table[index], table.rows[index[0]][index[1]])
                else:
                    self.refused(BadPlace, {"place": index}, lambda at: table[at], index)

    def test_edges_of_the_range(self):
        table = Table([[YES, NO, YES], [NO, NO, NO]])
        for index in [(-1, 0), (0, -1), (2, 0), (0, 3), (1, 3), (2, 2), (True, 0), (0, False), [0, 0], (0,), (0, 0, 0),
                      0, (0, HUGE), ((0, 0), 0)]:
            self.refused(BadPlace, {"place": index}, lambda at: table[at], index)

    def test_rows_as_tuples(self):
        for table in sample_tables():
            self.same(list(table), [tuple(row) for row in table.rows])
        table = Table([[YES], [NO]])
        self.same([(one, two) for one in table for two in table],
                  [((YES,), (YES,)), ((YES,), (NO,)), ((NO,), (YES,)), ((NO,), (NO,))])


class Equality(Case):

    def test_all_pairs_of_small_tables(self):
        tables = list(small_tables(2))
        for at, one in enumerate(tables):
            for to, other in enumerate(tables):
                self.same([one == other, one != other], [at == to, at != to])

    def test_equal_cells_of_unlike_sizes(self):
        self.same([Table([]) == Table([], width=1), Table([]) == Table([[]]), Table([]) != Table([], width=1)],
                  [False, False, True])

    def test_tables_made_apart(self):
        for table in sample_tables():
            other = Table(table.rows, width=table.width)
            self.same([table == other, table != other], [True, False])

    def test_any_other_value(self):
        for value in ODD:
            for table in [Table([]), Table([[YES]]), Table([[NO, YES], [YES, NO]])]:
                if not isinstance(value, Table):
                    self.same([table == value, table != value, value == table, value != table],
                              [False, True, False, True])
        table = Table([[YES]])
        for value in [table.rows, ((YES,),), str(table)]:
            self.same([table == value, table != value], [False, True])

    def test_a_table_counts_as_true(self):
        for table in sample_tables():
            self.assertIs(bool(table), True)


class Signs(Case):

    def test_product_of_small_tables(self):
        for one in small_tables(4):
            for other in small_tables(4):
                if one.width == other.height and one.height <= 2 and other.width <= 2:
                    cells = [[any(one[i, k] and other[k, j] for k in range(one.width)) for j in range(other.width)]
                             for i in range(one.height)]
                    self.same(one * other, Table(cells, width=other.width))
                    self.same((one * other).rows, cells)

    def test_product_of_sample_tables(self):
        tables = list(sample_tables(1))
        for one in tables:
            for other in tables:
                if one.width == other.height:
                    cells = [[any(a and b for a, b in zip(row, column)) for column in other.columns] for row in one.rows]
                    self.same((one * other).rows, cells)
                    self.same((one * other).size, (one.height, other.width))
                else:
                    self.refused(UnlikeSizes, {"first": one.size, "second": other.size}, lambda a, b: a * b, one, other)

    def test_product_without_middles(self):
        self.same(Table([[], []]) * Table([], width=3), Table.filled(2, 3))

    def test_either_both_and_opposite(self):
        for height, width in [(2, 2), (1, 3), (0, 3), (2, 0), (3, 1)]:
            tables = list(tables_of_size(height, width))
            for one in tables:
                self.same((~one).rows, [[not cell for cell in row] for row in one.rows])
                self.same((~one).size, (height, width))
                for other in tables:
                    pairs = [list(zip(a, b)) for a, b in zip(one.rows, other.rows)]
                    self.same((one | other).rows, [[a or b for a, b in row] for row in pairs])
                    self.same((one & other).rows, [[a and b for a, b in row] for row in pairs])
                    self.same([(one | other).size, (one & other).size], [(height, width)] * 2)

    def test_either_and_both_of_unlike_sizes(self):
        tables = [Table.filled(height, width) for height, width in sizes()]
        for one in tables:
            for other in tables:
                if one.size != other.size:
                    told = {"first": one.size, "second": other.size}
                    self.refused(UnlikeSizes, told, lambda a, b: a | b, one, other)
                    self.refused(UnlikeSizes, told, lambda a, b: a & b, one, other)

    def test_the_tables_stay(self):
        one, other = Table([[YES, NO], [NO, NO]]), Table([[YES, YES], [NO, YES]])
        for _ in [one * other, one | other, one & other, ~one]:
            self.same([one.row_lots, other.row_lots], [[(0,), ()], [(0, 1), (1,)]])

    def test_example(self):
        table = Table.of_lots([(0,), (0, 1)], 2)
        self.same(str(table * table), "2 by 2\nx.\nxx")
