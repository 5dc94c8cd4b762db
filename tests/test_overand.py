"""Points 32 and 33: spread faults and turned faults."""

import itertools

from greatestback.errors import TooMany
from greatestback.overand import SPREAD_LIMIT, is_spread_fault, is_turned_fault, spread_fault, spreads, turned_fault
from greatestback.tables import Table
from support import ODD, Case, is_lot, lots_below, near, sample_tables, small_tables
from words import bad_of, bad_paper_of, joined_of, spread_at, turned_spread_at

TABLES = list(small_tables(6)) + list(sample_tables(3))
THREE = Table.of_lots([(0, 1), (0, 2), (1, 2)], 3)
# The counts of joined rows around the limit, without a fault and with one.
SIXTEEN = [Table.same(4), Table.of_lots([(0, 5), (1, 2), (4,), (0, 2), (1, 4), (4,)], 6)]
SEVENTEEN = [
    Table.of_lots([(0,), (1,), (2,), (3,), (0, 1, 2, 3, 4)], 5),
    Table.of_lots([(0, 5), (1, 2), (4,), (0, 2), (1, 4), (0, 1, 2, 3, 4, 5)], 6),
]
# 64 joined rows without a fault, and 40 with one.
LARGEST = [Table.same(6), Table.of_lots([(0, 1), (0, 2), (1, 2), (3,), (4,), (5,)], 6)]


def first_of(joined, spread):
    """The first triple of joined rows, by x, then y, then z, that does not spread."""
    for x, y, z in itertools.product(joined, repeat=3):
        if not spread(joined, x, y, z):
            return (x, y, z)
    return None


def is_fault(table, paper, spread):
    if type(paper) is not tuple or len(paper) != 3:
        return False
    joined = joined_of(table)
    if not all(is_lot(part, table.width) and part in joined for part in paper):
        return False
    return not spread(joined, *paper)


def is_spread_fault_told(table, paper):
    return is_fault(table, paper, spread_at)


def is_turned_fault_told(table, paper):
    return is_fault(table, paper, turned_spread_at)


class Faults(Case):

    def test_limit(self):
        self.same(SPREAD_LIMIT, 16)

    def test_the_first_faults(self):
        for table in [one for one in TABLES if len(joined_of(one)) <= 10]:
            joined = joined_of(table)
            self.same(spread_fault(table), first_of(joined, spread_at))
            self.same(turned_fault(table), first_of(joined, turned_spread_at))

    def test_both_kinds_or_none_and_just_where_a_bad_row_is(self):
        for table in TABLES:
            self.assertIs(spreads(table), bad_of(table) == [])
            if len(joined_of(table)) <= 16:
                self.assertIs(spreads(table), spread_fault(table) is None)
                self.assertIs(spreads(table), turned_fault(table) is None)

    def test_spreads_has_no_limit(self):
        self.same([spreads(table) for table in LARGEST + SEVENTEEN], [True, False, True, False])

    def test_each_bad_paper_is_a_spread_fault(self):
        for table in TABLES + [~Table.same(6)]:
            for row in bad_of(table):
                self.assertIs(is_spread_fault(table, bad_paper_of(table, row)), True)

    def test_sixteen_joined_rows_are_answered(self):
        for table in SIXTEEN:
            joined = joined_of(table)
            self.assertEqual(len(joined), 16)
            self.answers(first_of(joined, spread_at), spread_fault, table)
            self.answers(first_of(joined, turned_spread_at), turned_fault, table)
        self.assertEqual([spreads(table) for table in SIXTEEN], [True, False])

    def test_more_are_too_many_with_a_fault_and_without(self):
        for table in SEVENTEEN:
            self.assertEqual(len(joined_of(table)), 17)
        for table in SEVENTEEN + LARGEST:
            told = {"many": len(joined_of(table)), "limit": 16}
            self.refused_every_way(TooMany, told, spread_fault, table)
            self.refused_every_way(TooMany, told, turned_fault, table)

    def test_tables_without_a_cell(self):
        for table in [Table([]), Table([], width=6), Table([[]] * 6)]:
            self.same([spread_fault(table), turned_fault(table), spreads(table)], [None, None, True])
            self.same([is_spread_fault(table, ((), (), ())), is_turned_fault(table, ((), (), ()))], [False, False])

    def test_by_position_and_by_name(self):
        self.answers(((0, 1), (0, 2), (1, 2)), spread_fault, THREE)
        self.answers(((0, 1), (0, 2), (1, 2)), turned_fault, THREE)
        self.answers(False, spreads, THREE)
        self.answers(True, spreads, Table.same(3))
        self.answers(True, is_spread_fault, THREE, ((0, 2), (1, 2), (0, 1)))
        self.answers(True, is_turned_fault, THREE, ((0, 2), (1, 2), (0, 1)))

    def test_example(self):
        self.same([spread_fault(THREE), spreads(Table.same(3))], [((0, 1), (0, 2), (1, 2)), True])


class Judges(Case):

    def test_all_triples_of_lots(self):
        for table in [THREE, Table.same(3), Table.of_lots([(0,), (0, 1), (0, 2), (1, 2)], 3), Table([], width=3)]:
            triples = list(itertools.product(lots_below(3), repeat=3))
            self.judges(is_spread_fault_told, is_spread_fault, [table], triples)
            self.judges(is_turned_fault_told, is_turned_fault, [table], triples)

    def test_the_two_kinds_are_unlike(self):
        table = Table.of_lots([(0,), (1, 2), (0, 1), (0, 2)], 3)
        joined = joined_of(table)
        triples = list(itertools.product(joined, repeat=3))
        spread = [one for one in triples if is_spread_fault(table, one)]
        turned = [one for one in triples if is_turned_fault(table, one)]
        self.assertNotEqual(spread, turned)
        self.assertEqual([spread[0], turned[0]], [spread_fault(table), turned_fault(table)])

    def test_a_fault_with_a_part_changed_and_any_value(self):
        for table in [one for one in sample_tables(2, seed=3) if bad_of(one)][:8] + [THREE, Table.same(3), Table([])]:
            papers = [bad_paper_of(table, row) for row in bad_of(table)[:2]]
            values = ODD + papers + [other for paper in papers for other in near(paper)]
            self.judges(is_spread_fault_told, is_spread_fault, [table], values)
            self.judges(is_turned_fault_told, is_turned_fault, [table], values)

    def test_no_limit(self):
        for table in LARGEST + SEVENTEEN:
            joined = joined_of(table)
            triples = [(joined[-x], joined[y], joined[-z]) for x, y, z in itertools.product([2, 5, 7], repeat=3)]
            self.judges(is_spread_fault_told, is_spread_fault, [table], triples)
            self.judges(is_turned_fault_told, is_turned_fault, [table], triples)
        paper = ((0, 1, 5), (0, 2, 4), (1, 2))
        self.same([is_spread_fault(LARGEST[1], paper), is_turned_fault(LARGEST[1], paper)], [True, True])
