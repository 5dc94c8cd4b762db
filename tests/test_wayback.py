"""Points 37 to 39: what leads back, way papers, the small and the mutual way, all ways."""

import itertools

from greatestback.errors import NoWayBack, TooMany, UnlikeSizes
from greatestback.overand import spreads
from greatestback.tables import Table
from greatestback.wayback import (
    TRY_CELLS, all_ways, are_mutual, is_way_paper, leads_back, mutual_way, small_way, way_back, way_paper,
)
from support import ODD, Case, near, sample_tables, sizes, small_tables, tables_near, tables_of_size
from words import (
    back_of, bad_of, bad_paper_of, count_yes, crosswise_of, first_bad_paper_of, greatest_under_of, inside_of,
    is_bad_paper_of, own_of, rows_of, table_of, then_of, unmade_of,
)

TABLES = list(small_tables(6)) + list(sample_tables(3))
LARGEST = [Table.same(6), ~Table.same(6), Table.filled(6, 6), Table.filled(6, 6, yes=True)]
EMPTY = [Table([]), Table([], width=6), Table([[]] * 6), Table([], width=1)]
THREE = Table.of_lots([(0, 1), (0, 2), (1, 2)], 3)


def ways_of(table):
    """All tables that lead back, in cell order: itertools.product tries the last cell first, no before yes."""
    return [one for one in tables_of_size(table.width, table.height) if back_of(table, one) == table]


def tried():
    """The tables of up to six cells with all their ways, and some of nine cells."""
    some = [Table.of_lots(rows, 3) for rows in itertools.permutations([(0, 1), (0, 2), (1, 2), (0, 1, 2), ()], 3)][::4]
    for table in list(small_tables(6)) + [THREE] + some:
        yield table, ways_of(table)


TRIED = list(tried())


def is_mutual_told(first, second):
    if not crosswise_of(first, second):
        return False
    return back_of(first, second) == first and back_of(second, first) == second


def is_way_paper_told(table, paper):
    if type(paper) is not tuple or len(paper) != 2 or type(paper[0]) is not str:
        return False
    if paper[0] == "back":
        return isinstance(paper[1], Table) and crosswise_of(table, paper[1]) and back_of(table, paper[1]) == table
    return paper[0] == "bad" and is_bad_paper_of(table, paper[1])


class Ways(Case):

    def test_leads_back(self):
        for table, ways in TRIED:
            for other in tables_of_size(table.width, table.height):
                self.assertIs(leads_back(table, other), other in ways)
        self.answers(True, leads_back, Table.of_lots([(0,), (0, 1)], 2), Table.of_lots([(0,), (1,)], 2))
        self.answers(False, leads_back, Table.of_lots([(0,), (0, 1)], 2), Table.of_lots([(0, 1), (1,)], 2))

    def test_a_table_under_it_need_not_lead_back(self):
        self.same([leads_back(Table.same(2), Table.filled(2, 2)), way_back(Table.same(2))], [False, Table.same(2)])

    def test_other_must_be_crosswise(self):
        filled = {size: Table.filled(*size) for size in sizes()}
        for size, other in itertools.product(sizes(), sizes()):
            if other != (size[1], size[0]):
                self.refused(UnlikeSizes, {"first": size, "second": other}, leads_back, filled[size], filled[other])
        self.refused_every_way(UnlikeSizes, {"first": (2, 3), "second": (2, 3)}, leads_back, filled[2, 3], filled[2, 3])

    def test_some_way_leads_back_just_where_no_row_is_bad_and_the_table_spreads(self):
        for table, ways in TRIED:
            self.assertIs(ways == [], bad_of(table) != [])
            self.assertIs(ways == [], not spreads(table))
            self.assertIs(ways == [], way_back(table) is None)

    def test_the_greatest_table_under_it_leads_back_just_where_no_row_is_bad(self):
        kinds = set()
        for table in TABLES + LARGEST:
            greatest = greatest_under_of(table)
            leads = back_of(table, greatest) == table
            kinds.add(leads)
            self.assertIs(leads, bad_of(table) == [])
            self.same(way_back(table), greatest if leads else None)
            self.same(way_paper(table), ("back", greatest) if leads else ("bad", first_bad_paper_of(table)))
        self.assertEqual(kinds, {True, False})

    def test_by_position_and_by_name(self):
        self.answers(None, way_back, THREE)
        self.answers(Table.of_lots([(0,), (1,)], 2), way_back, Table.same(2))
        self.answers(("bad", ((0, 1), (0, 2), (1, 2))), way_paper, THREE)
        self.answers(("back", Table.of_lots([(0,), (1,)], 2)), way_paper, Table.same(2))

    def test_without_rows_or_columns(self):
        for table in EMPTY:
            way = Table.filled(table.width, table.height)
            self.same([way_back(table), way_paper(table)], [way, ("back", way)])
            self.same([small_way(table), mutual_way(table), all_ways(table)], [way, way, [way]])
            self.same([leads_back(table, way), are_mutual(table, way)], [True, True])


class Papers(Case):

    def test_each_way_and_no_other_table_makes_a_paper(self):
        for table, ways in TRIED:
            for other in tables_of_size(table.width, table.height):
                self.assertIs(is_way_paper(table, ("back", other)), other in ways)

    def test_papers_of_one_kind_only(self):
        for table in TABLES:
            way = ("back", greatest_under_of(table))
            bad = ("bad", bad_paper_of(table, bad_of(table)[-1]) if bad_of(table) else ((0,), (0,), (0,)))
            self.assertIs(is_way_paper(table, way), bad_of(table) == [])
            self.assertIs(is_way_paper(table, bad), bad_of(table) != [])
            self.assertIs(is_way_paper(table, way_paper(table)), True)

    def test_a_paper_with_a_part_changed_and_any_value(self):
        tables = list(sample_tables(1)) + [THREE, Table.same(6), ~Table.same(6)]
        for table in tables:
            values = ODD + near(way_paper(table)) + [way_paper(one) for one in tables[::5]]
            self.judges(is_way_paper_told, is_way_paper, [table], values)

    def test_tables_that_are_not_crosswise_and_other_words(self):
        table = Table.of_lots([(0,), (0, 1)], 3)
        others = [table, Table([]), Table.filled(3, 3), Table.filled(2, 2), Table.same(6), None, ((0,), (0,), (0,))]
        for other in others:
            self.same([is_way_paper(table, (word, other)) for word in ["back", "bad", "", table]], [False] * 4)
        way = way_back(table)
        self.answers(True, is_way_paper, table, ("back", way))
        for paper in [["back", way], ("back", way, way), ("back",), ("Back", way), ("bad", way), (way, "back"), "back"]:
            self.answers(False, is_way_paper, table, paper)


class SmallWay(Case):

    def test_cells(self):
        for table in TABLES + LARGEST:
            if bad_of(table) == []:
                rows = rows_of(table)
                cells = [(min(own_of(table, row)), rows.index(row)) for row in unmade_of(table)]
                told = table_of(table.width, table.height, lambda k, i: (k, i) in cells)
                self.same(small_way(table), told)
                self.assertEqual([back_of(table, told), count_yes(told)], [table, len(cells)])

    def test_no_way_has_fewer_yes_cells(self):
        for table, ways in TRIED:
            if ways:
                self.assertIn(small_way(table), ways)
                self.assertEqual(small_way(table).many_yes, min(count_yes(way) for way in ways))

    def test_the_first_row_and_the_least_own_column(self):
        table = Table.of_lots([(), (1, 2), (1, 2), (0, 1, 2, 3), (1, 2)], 4)
        self.answers(Table.of_lots([(3,), (1,), (), ()], 5), small_way, table)

    def test_example(self):
        self.same([small_way(Table.of_lots([(0,), (0, 1)], 2)).row_lots,
                   [way.rows for way in all_ways(Table.filled(1, 2))]],
                  [[(0,), (1,)], [[[False], [False]], [[False], [True]], [[True], [False]], [[True], [True]]]])
        self.refused(NoWayBack, {"paper": ((0, 1), (0, 2), (1, 2))}, small_way, THREE)


class Mutual(Case):

    def test_the_mutual_way_is_mutual_and_holds_every_mutual_table(self):
        for table, ways in TRIED:
            if ways:
                told = mutual_way(table)
                mutual = [way for way in ways if back_of(way, table) == way]
                self.assertIn(told, mutual)
                self.assertTrue(all([inside_of(one, told) for one in mutual]))

    def test_cells(self):
        for table in TABLES + LARGEST:
            if bad_of(table) == []:
                greatest = greatest_under_of(table)
                self.same(mutual_way(table), then_of(then_of(greatest, table), greatest))
        self.answers(Table.filled(3, 2), mutual_way, Table.filled(2, 3))
        self.answers(Table.filled(3, 2, yes=True), way_back, Table.filled(2, 3))

    def test_are_mutual(self):
        for table in small_tables(4):
            for other in tables_of_size(table.width, table.height):
                self.assertIs(are_mutual(table, other), is_mutual_told(table, other))
        for table in sample_tables(1):
            if bad_of(table) == []:
                way = mutual_way(table)
                tables = [one for one in tables_near(way) if isinstance(one, Table)]
                self.judges(is_mutual_told, are_mutual, [table], tables)
                self.assertIs(are_mutual(way, table), True)

    def test_each_of_the_two_must_lead_back(self):
        table = Table.of_lots([(0,), ()], 2)
        self.answers(False, are_mutual, table, Table.filled(2, 2, yes=True) & Table.of_lots([(0, 1), (1,)], 2))
        self.answers(False, are_mutual, Table.filled(2, 2, yes=True), Table.filled(2, 2))
        self.answers(False, are_mutual, Table.filled(2, 2), Table.filled(2, 2, yes=True))
        self.answers(True, are_mutual, Table.filled(2, 2, yes=True), Table.of_lots([(0, 1), (0, 1)], 2))

    def test_tables_of_any_sizes_are_answered(self):
        tables = [Table.filled(*size) for size in sizes()]
        for first, second in itertools.product(tables, tables):
            self.assertIs(are_mutual(first, second), second.size == (first.width, first.height))


class NoWay(Case):

    def test_the_paper_is_of_the_first_bad_row(self):
        tables = [table for table in list(sample_tables(8, seed=4)) + LARGEST if bad_of(table)]
        self.assertGreater(len(tables), 20)
        for table in tables:
            for function in [small_way, mutual_way]:
                self.refused_every_way(NoWayBack, {"paper": first_bad_paper_of(table)}, function, table)
            self.same(way_back(table), None)


class AllWays(Case):

    def test_complete_and_in_cell_order(self):
        for table, ways in TRIED:
            self.same(all_ways(table), ways)
            cells = [sum(one.rows, []) for one in all_ways(table)]
            self.assertEqual(cells, sorted(cells))

    def test_none(self):
        self.answers([], all_ways, THREE)
        self.answers([Table.same(3)], all_ways, Table.same(3))

    def test_nine_cells_and_more(self):
        self.same(TRY_CELLS, 9)
        for height, width in sizes():
            many = height * width
            for table in [Table.filled(height, width), Table.filled(height, width, yes=True)]:
                if many > 9:
                    self.refused_every_way(TooMany, {"many": many, "limit": 9}, all_ways, table)
                else:
                    self.assertEqual(len(all_ways(table)), 2 ** many - table[0, 0] if many else 1)

    def test_too_many_cells_also_where_none_leads_back(self):
        self.refused(TooMany, {"many": 12, "limit": 9}, all_ways, Table.of_lots([(0, 1), (0, 2), (1, 2)], 4))

    def test_by_position_and_by_name(self):
        self.answers(ways_of(Table.of_lots([(0,), (0, 1)], 2)), all_ways, Table.of_lots([(0,), (0, 1)], 2))
