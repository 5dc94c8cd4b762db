"""Points 29 to 31: own columns, prime rows, bad rows and their papers."""

import itertools

from greatestback.errors import BadLot, NotJoined
from greatestback.primes import (
    bad_paper, bad_row, bad_rows, is_bad_paper, is_prime, is_prime_paper, own_columns, prime_paper, prime_rows,
)
from greatestback.tables import Table
from support import ODD, Case, is_int, is_lot, lots_below, near, sample_tables, small_tables
from words import (
    bad_of, bad_paper_of, first_bad_paper_of, is_bad_paper_of, is_prime_by_lists, is_prime_of, join, joined_of, own_of,
    rows_of, unmade_of, within,
)

TABLES = list(small_tables(6)) + list(sample_tables(3))
# 64 joined rows, six bad rows, and 40 joined rows with three bad rows.
LARGEST = [Table.same(6), ~Table.same(6), Table.of_lots([(0, 1), (0, 2), (1, 2), (3,), (4,), (5,)], 6)]
EMPTY = [Table([]), Table([], width=6), Table([[]] * 6), Table.filled(6, 6)]
# Each two of its three rows hold the third one.
THREE = Table.of_lots([(0, 1), (0, 2), (1, 2)], 3)


def is_prime_paper_told(table, paper):
    if type(paper) is not tuple or len(paper) != 2 or not is_lot(paper[0], table.width):
        return False
    return is_int(paper[1], 0, table.width - 1) and paper[0] in rows_of(table) and paper[1] in own_of(table, paper[0])


class Own(Case):

    def test_own_columns(self):
        for table in TABLES + LARGEST:
            for lot in lots_below(table.width):
                self.same(own_columns(table, lot), own_of(table, lot))

    def test_without_rows_all_columns_are_own_to_every_lot(self):
        for lot in lots_below(3):
            self.answers((0, 1, 2), own_columns, Table([], width=3), lot)
        self.answers((), own_columns, Table([[]] * 6), ())

    def test_an_own_column_need_not_be_in_the_lot(self):
        table = Table.of_lots([(0, 1, 2), (0,)], 3)
        self.answers((1, 2), own_columns, table, (1,))
        self.answers((1, 2), own_columns, table, (0, 1))
        self.answers((0,), own_columns, table, ())
        self.answers((), own_columns, Table.of_lots([(0,), (1,)], 2), (0, 1))

    def test_an_own_column_outside_the_lot(self):
        outside = [(table, lot) for table in TABLES for lot in lots_below(table.width)
                   if table.height and set(own_columns(table, lot)) - set(lot)]
        self.assertIn((Table.of_lots([(), (0, 1, 2)], 3), (0,)), [(table, lot) for table, lot in outside])

    def test_bad_lots(self):
        for table in [Table.filled(6, 2), Table.filled(2, 6), Table([[]] * 2), Table([], width=2)]:
            for odd in ODD:
                if not is_lot(odd, table.width):
                    self.refused_every_way(BadLot, {"lot": odd}, own_columns, table, odd)
                    self.refused_every_way(BadLot, {"lot": odd}, bad_paper, table, odd)


class Prime(Case):

    def test_over_every_list_of_joined_rows(self):
        for table in [one for one in TABLES if len(joined_of(one)) <= 8]:
            joined = joined_of(table)
            self.same(prime_rows(table), [row for row in joined if is_prime_by_lists(joined, row)])

    def test_prime_rows(self):
        for table in TABLES + LARGEST:
            joined = joined_of(table)
            told = [row for row in joined if is_prime_of(joined, row)]
            self.same(prime_rows(table), told)
            self.assertLessEqual(set(told), set(unmade_of(table)))
            for lot in lots_below(6):
                self.assertIs(is_prime(table, lot), lot in told)

    def test_without_prime_rows(self):
        for table in EMPTY + [THREE, ~Table.same(6)]:
            self.answers([], prime_rows, table)
            self.same(is_prime(table, ()), False)

    def test_by_position_and_by_name(self):
        table = Table.of_lots([(1, 2), (2,), (0, 2), (0, 1, 2), (2,)], 3)
        self.answers([(2,), (0, 2), (1, 2)], prime_rows, table)
        self.answers(True, is_prime, table, (1, 2))
        self.answers(False, is_prime, table, (0, 1, 2))

    def test_is_prime_of_any_value(self):
        for table in list(sample_tables(1)) + LARGEST:
            joined = joined_of(table)
            told = [row for row in joined if is_prime_of(joined, row)]
            values = ODD + [other for row in told for other in near(row)]
            self.judges(lambda _, value: is_lot(value, table.width) and value in told, is_prime, [table], values)


class PrimePaper(Case):

    def test_the_least_own_column_of_each_prime_row(self):
        for table in TABLES + LARGEST:
            joined = joined_of(table)
            for row in joined:
                told = (row, min(own_of(table, row))) if is_prime_of(joined, row) else None
                self.same(prime_paper(table, row), told)
                self.assertIs(is_prime_paper(table, told), told is not None)

    def test_by_position_and_by_name(self):
        table = Table.of_lots([(0, 1, 2), (0,)], 3)
        self.answers(((0, 1, 2), 1), prime_paper, table, (0, 1, 2))
        self.answers(None, prime_paper, table, ())
        self.answers(True, is_prime_paper, table, ((0, 1, 2), 2))
        self.answers(False, is_prime_paper, table, ((0, 1, 2), 0))

    def test_bad_lots_go_before_lots_that_are_not_joined(self):
        for table in [Table.of_lots([(0, 1), (1, 2)], 4), Table([]), Table([], width=6), Table.same(6), THREE]:
            joined = joined_of(table)
            for odd in ODD:
                if not is_lot(odd, table.width):
                    self.refused_every_way(BadLot, {"lot": odd}, prime_paper, table, odd)
                elif odd not in joined:
                    self.refused_every_way(NotJoined, {"lot": odd}, prime_paper, table, odd)
                else:
                    self.assertIn(prime_paper(table, odd), [None, (odd, min(own_of(table, odd), default=0))])

    def test_papers_of_every_lot_and_number(self):
        for table in list(sample_tables(1)) + list(small_tables(3)):
            papers = itertools.product(lots_below(table.width), range(-1, 7))
            self.judges(is_prime_paper_told, is_prime_paper, [table], list(papers))

    def test_a_paper_with_a_part_changed_and_any_value(self):
        for table in list(sample_tables(1)) + LARGEST:
            papers = [((row, own)) for row in prime_rows(table) for own in own_of(table, row)]
            values = papers + [other for paper in papers for other in near(paper)]
            self.judges(is_prime_paper_told, is_prime_paper, [table], ODD + values)
        self.same(is_prime_paper(Table.same(2), ((0,), False)), False)
        self.same(is_prime_paper(Table.same(2), ((False,), 0)), False)
        self.same(is_prime_paper(Table([], width=2), ((), 0)), False)


class Bad(Case):

    def test_bad_rows_and_their_papers(self):
        for table in TABLES + LARGEST:
            told = bad_of(table)
            self.same(bad_rows(table), told)
            self.same(bad_row(table), first_bad_paper_of(table))
            for lot in lots_below(table.width):
                paper = bad_paper_of(table, lot) if lot in told else None
                self.same(bad_paper(table, lot), paper)
                if paper is not None:
                    self.assertIs(is_bad_paper(table, paper), True)

    def test_the_rows_are_taken_in_the_sequence_of_their_numbers(self):
        table = Table.of_lots([(2, 4), (0, 3), (0, 1), (0, 3), (1, 2), (0, 2)], 5)
        self.answers(((0, 1), (0, 2, 3, 4), (1, 2)), bad_paper, table, (0, 1))
        self.answers([(0, 1), (0, 2), (1, 2)], bad_rows, table)
        self.answers(((0, 1), (0, 2, 3, 4), (1, 2)), bad_row, table)
        self.answers(((0, 2), (2, 4), (0, 3)), bad_paper, table, (0, 2))

    def test_equal_and_made_rows_are_taken_too(self):
        table = Table.of_lots([(0, 2), (0, 2, 3), (3,), (1, 2), (0, 1), (0, 2)], 4)
        self.answers(((0, 1), (0, 2, 3), (1, 2)), bad_paper, table, (0, 1))
        self.answers(None, bad_paper, table, (0, 2, 3))

    def test_none_for_what_is_no_bad_row(self):
        for table in [Table.same(3), THREE, ~Table.same(6)]:
            for lot in [(), (0,), (2,), (0, 1, 2)]:
                self.answers(None, bad_paper, table, lot)
        for table in EMPTY + [Table.same(6)]:
            self.answers(None, bad_row, table)
            self.answers([], bad_rows, table)

    def test_example(self):
        self.same([own_columns(THREE, (0, 1)), prime_rows(THREE), bad_row(THREE)], [(), [], ((0, 1), (0, 2), (1, 2))])
        self.same([type(bad_row(THREE)), bad_rows(THREE)], [tuple, [(0, 1), (0, 2), (1, 2)]])


class BadPaper(Case):

    def test_all_triples_of_lots(self):
        for table in [THREE, Table.same(3), Table.of_lots([(0, 1), (0, 2), (1, 2), (0,)], 3)]:
            triples = list(itertools.product(lots_below(3), repeat=3))
            self.judges(is_bad_paper_of, is_bad_paper, [table], triples)
        self.answers(True, is_bad_paper, THREE, ((0, 1), (1, 2), (0, 2)))
        self.answers(False, is_bad_paper, THREE, ((0, 1), (0, 1), (0, 2)))

    def test_it_need_not_be_the_one_that_the_program_makes(self):
        table = ~Table.same(4)
        papers = [(p, y, z) for p in bad_of(table) for y in joined_of(table) for z in joined_of(table)
                  if within(p, join([y, z])) and not within(p, y) and not within(p, z)]
        self.assertGreater(len(papers), len(bad_of(table)))
        for paper in papers:
            self.assertIs(is_bad_paper(table, paper), True)

    def test_a_paper_with_a_part_changed_and_any_value(self):
        for table in [one for one in sample_tables(2, seed=3) if bad_of(one)][:12] + LARGEST + EMPTY:
            papers = [bad_paper_of(table, row) for row in bad_of(table)[:3]]
            values = papers + [other for paper in papers for other in near(paper)]
            self.judges(is_bad_paper_of, is_bad_paper, [table], ODD + values)

    def test_a_made_row_or_a_row_that_is_not_joined_makes_no_paper(self):
        table = Table.of_lots([(0, 1), (0, 2), (1, 2)], 4)
        for paper in [((0, 1, 2), (0, 1), (0, 2)), ((0, 1), (0,), (1, 2)), ((0, 1), (0, 2), (1,)), ((), (), ())]:
            self.same(is_bad_paper(table, paper), False)
