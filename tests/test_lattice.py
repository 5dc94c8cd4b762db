"""Point 25: either, both, what is under and over, and chains."""

import itertools

from greatestback.errors import BadLot, NotJoined
from greatestback.lattice import Lattice
from greatestback.tables import Table
from support import ODD, Case, is_lot, lot_order, lots_below, row_sets, sample_tables, small_tables

TABLES = list(small_tables(4)) + list(sample_tables(1))
LARGEST = Table.same(6)


def joins_told(table):
    joins = [()]
    for row in row_sets(table):
        joins = lot_order(joins + [tuple(sorted(row | set(join))) for join in joins])
    return joins


def within(one, other):
    return set(one) <= set(other)


def greatest_within(joined, common):
    """The greatest joined row within a set, by looking at all of them."""
    return [row for row in joined if set(row) <= common][-1]


def directly_above(joined, high, low):
    between = [row for row in joined if row not in (high, low) and within(low, row) and within(row, high)]
    return high != low and within(low, high) and not between


def longest_told(joined):
    lengths = {}
    for row in joined:
        lengths[row] = max([lengths[low] + 1 for low in lengths if within(low, row)], default=0)
    return max(lengths.values())


class Reading(Case):

    def test_properties_and_iteration(self):
        for table in TABLES + [LARGEST]:
            joined = joins_told(table)
            lattice = Lattice(table=table)
            self.same(lattice.table, table)
            self.same([lattice.how_many, lattice.bottom, lattice.top], [len(joined), (), joined[-1]])
            self.same(list(lattice), joined)

    def test_top_is_the_join_of_all_rows(self):
        self.same(Lattice(Table.of_lots([(0,), (2,), ()], 4)).top, (0, 2))
        self.same([Lattice(Table([], width=3)).top, Lattice(Table([[]])).top, Lattice(Table([])).top], [(), (), ()])

    def test_iterating_again_within_itself_and_after_leaving_early(self):
        lattice = Lattice(Table.same(2))
        joined = [(), (0,), (1,), (0, 1)]
        for row in lattice:
            if row == (0,):
                break
        self.same([list(lattice), list(lattice)], [joined, joined])
        self.same([(one, other) for one in lattice for other in lattice], list(itertools.product(joined, joined)))

    def test_in(self):
        for table in TABLES:
            joined = joins_told(table)
            lattice = Lattice(table)
            for lot in lots_below(6):
                self.assertIs(lot in lattice, lot in joined)

    def test_in_takes_any_plain_value(self):
        for table in [Table([]), Table.same(2), LARGEST, Table.filled(2, 3, yes=True)]:
            joined = joins_told(table)
            lattice = Lattice(table)
            for value in ODD:
                self.assertIs(value in lattice, is_lot(value, table.width) and value in joined)
        lattice = Lattice(Table.same(2))
        for value in [(False,), (True,), (False, True), [0], [], [0, 1], {}.get(0), "", "0", 0, (1, 0), (0, 0), ((),)]:
            self.assertIs(value in lattice, False)

    def test_counts_as_true(self):
        for table in [Table([]), Table.same(2)]:
            self.assertIs(bool(Lattice(table)), True)

    def test_a_lattice_is_of_its_own_table(self):
        one, other = Lattice(Table.same(2)), Lattice(Table.same(3))
        self.same([one.how_many, other.how_many, one.how_many], [4, 8, 4])
        self.same([one.table, other.table], [Table.same(2), Table.same(3)])


class TwoRows(Case):

    def test_either_and_both(self):
        for table in TABLES:
            joined = joins_told(table)
            lattice = Lattice(table)
            for first, second in itertools.product(joined, joined):
                self.same(lattice.either(first, second), tuple(sorted(set(first) | set(second))))
                self.same(lattice.both(first, second), greatest_within(joined, set(first) & set(second)))

    def test_by_position_and_by_name(self):
        lattice = Lattice(Table.of_lots([(0, 1), (0, 2), (2,)], 3))
        self.answers((0, 1, 2), lattice.either, (0, 1), (2,))
        self.answers((), lattice.both, (0, 1), (2,))
        self.answers((2,), lattice.both, (0, 2), (2,))

    def test_bad_lots_and_lots_that_are_not_joined(self):
        table = Table.of_lots([(0, 1), (1, 2)], 4)
        joined = joins_told(table)
        lattice = Lattice(table)
        for function in [lattice.either, lattice.both]:
            for odd in ODD:
                if not is_lot(odd, 4):
                    for other in [(), (0, 1), (0,), None]:
                        self.refused_every_way(BadLot, {"lot": odd}, function, odd, other)
                    for other in [(), (0, 1), (0,), (3,)]:
                        self.refused_every_way(BadLot, {"lot": odd}, function, other, odd)
                elif odd not in joined:
                    for other in [(), (0, 1), (0,)]:
                        self.refused_every_way(NotJoined, {"lot": odd}, function, odd, other)
                    self.refused_every_way(NotJoined, {"lot": odd}, function, (1, 2), odd)
            self.refused_every_way(NotJoined, {"lot": (3,)}, function, (3,), (2,))


class ManyRows(Case):

    def test_of_none(self):
        for table in TABLES:
            lattice = Lattice(table)
            self.answers((), lattice.either_all, [])
            self.answers(joins_told(table)[-1], lattice.both_all, [])
            self.same([lattice.either_all(()), lattice.both_all(())], [lattice.bottom, lattice.top])

    def test_of_one_and_of_three(self):
        for table in sample_tables(1):
            joined = joins_told(table)
            lattice = Lattice(table)
            chosen = (joined[1:] + joined)[::max(1, len(joined) // 4)][:4]
            for lots in [[lot] for lot in chosen] + [list(three) for three in itertools.product(chosen, repeat=3)]:
                join = set().union(*map(set, lots))
                common = set(lots[0]).intersection(*map(set, lots))
                self.answers(tuple(sorted(join)), lattice.either_all, lots)
                self.answers(greatest_within(joined, common), lattice.both_all, lots)
                self.same(lattice.both_all(tuple(lots)), greatest_within(joined, common))

    def test_both_all_is_of_the_common_part_of_all(self):
        lattice = Lattice(Table.of_lots([(0, 1), (0, 2), (1, 2), (0,)], 3))
        self.answers((0,), lattice.both_all, [(0, 1), (0, 2), (0, 1, 2)])
        self.answers((), lattice.both_all, ((0, 1), (0, 2), (1, 2)))

    def test_of_seventy(self):
        lattice = Lattice(LARGEST)
        joined = joins_told(LARGEST)
        self.answers((0, 1, 2, 3, 4, 5), lattice.either_all, joined + joined[:6])
        self.answers((), lattice.both_all, joined + joined[:6])
        self.answers((2, 3), lattice.both_all, [(2, 3, 4), (1, 2, 3)] * 35)
        self.answers((1, 2, 3), lattice.either_all, [(2, 3), (1,)] * 35)

    def test_the_first_bad_lot_goes_before_each_lot_that_is_not_joined(self):
        table = Table.of_lots([(0, 1), (1, 2)], 4)
        joined = joins_told(table)
        lattice = Lattice(table)
        for function in [lattice.either_all, lattice.both_all]:
            for odd in ODD:
                if not is_lot(odd, 4):
                    for before in [[], [(0, 1)], [(0,)], [(0,), (3,), ()]]:
                        self.refused_every_way(BadLot, {"lot": odd}, function, before + [odd, None, (0,)])
                        self.refused(BadLot, {"lot": odd}, function, tuple(before + [odd]))
                elif odd not in joined:
                    self.refused_every_way(NotJoined, {"lot": odd}, function, [(), (0, 1), odd, (3,)])
            self.refused(BadLot, {"lot": (False,)}, function, [(0,), (False,), (True,)])


class UnderAndOver(Case):

    def test_all_rows(self):
        for table in TABLES + [LARGEST]:
            joined = joins_told(table)
            lattice = Lattice(table)
            for place, row in enumerate(joined):
                self.same(lattice.place_of(row), place)
                self.same(lattice.under(row), [low for low in joined if within(low, row)])
                self.same(lattice.over(row), [high for high in joined if within(row, high)])

    def test_next_over(self):
        for table in TABLES:
            joined = joins_told(table)
            lattice = Lattice(table)
            for row in joined:
                self.same(lattice.next_over(row), [high for high in joined if directly_above(joined, high, row)])

    def test_by_position_and_by_name(self):
        lattice = Lattice(Table.of_lots([(0, 1), (0, 2), (1, 2)], 3))
        self.answers(2, lattice.place_of, (0, 2))
        self.answers([(), (0, 2)], lattice.under, (0, 2))
        self.answers([(0, 2), (0, 1, 2)], lattice.over, (0, 2))
        self.answers([(0, 1), (0, 2), (1, 2)], lattice.next_over, ())
        self.answers([], lattice.next_over, (0, 1, 2))

    def test_bad_lots_and_lots_that_are_not_joined(self):
        for table in [Table.of_lots([(0, 1), (1, 2)], 4), Table([]), Table([], width=6), LARGEST]:
            joined = joins_told(table)
            lattice = Lattice(table)
            for function in [lattice.place_of, lattice.under, lattice.over, lattice.next_over]:
                for odd in ODD:
                    if not is_lot(odd, table.width):
                        self.refused_every_way(BadLot, {"lot": odd}, function, odd)
                    elif odd not in joined:
                        self.refused_every_way(NotJoined, {"lot": odd}, function, odd)

    def test_a_lattice_stays(self):
        lattice = Lattice(Table.same(2))
        for told in [lattice.under((0, 1)), lattice.over(()), lattice.next_over(())]:
            told.clear()
        self.same(list(lattice), [(), (0,), (1,), (0, 1)])


class Chains(Case):

    def test_longest(self):
        for table in TABLES + [LARGEST]:
            self.same(Lattice(table).longest(), longest_told(joins_told(table)))

    def test_edges(self):
        steps = Table.of_lots([tuple(range(count)) for count in range(1, 7)], 6)
        crown = ~Table.same(6)
        self.same([Lattice(table).longest() for table in [Table([]), Table([[]]), Table.filled(1, 1, yes=True), steps, LARGEST]],
                  [0, 0, 1, 6, 6])
        self.same(Lattice(crown).longest(), 2)

    def test_example(self):
        lattice = Lattice(Table.of_lots([(0, 1), (0, 2), (1, 2)], 3))
        self.same([lattice.both((0, 1), (0, 2)), lattice.next_over((0, 1)), lattice.longest()], [(), [(0, 1, 2)], 2])
