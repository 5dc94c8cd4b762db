"""Points 58 and 59: tables that are their own squares, and powers that come round."""

import itertools
import random

from greatestback.behind import power
from greatestback.errors import NotSquare, TooMany, UnlikeSizes
from greatestback.rounds import POWER_LIMIT, is_own_square, powers, rounds, settled, squares_of_way
from greatestback.tables import Table
from support import Case, sample_tables, sizes, small_tables, tables_of_size
from words import back_of, columns_of, greatest_under_of, joined_of, joins_of, then_of

THREE = Table.of_lots([(1,), (2,), (0,)], 3)


def fours(each=60, seed=5):
    """Some tables of side 4: few yes cells make long rounds."""
    source = random.Random(seed)
    for share, _ in itertools.product([10, 25, 30, 50], range(each)):
        yield Table([[source.randrange(100) < share for _ in range(4)] for _ in range(4)])
    for placing in itertools.permutations(range(4)):
        yield Table.of_lots([(number,) for number in placing], 4)
        yield Table.of_lots([(0, 1)] + [(number,) for number in placing[1:]], 4)
    # The longest walk of all before the powers come round.
    yield Table.of_lots([(1,), (2,), (3,), (0, 1)], 4)


SQUARES = [table for side in range(4) for table in tables_of_size(side, side)] + list(fours())


def walk(table):
    """Point 59: the start, the length, and the powers before the first one that comes again."""
    seen, last = [table], then_of(table, table)
    while last not in seen:
        seen.append(last)
        last = then_of(last, table)
    start = seen.index(last) + 1
    return start, len(seen) + 1 - start, seen


def is_own_square_told(table):
    return table.height == table.width and then_of(table, table) == table


class OwnSquares(Case):

    def test_is_own_square(self):
        kinds = set()
        for table in list(small_tables(6)) + SQUARES + list(sample_tables(4)):
            told = is_own_square_told(table)
            kinds.add(told)
            self.assertIs(is_own_square(table), told)
        self.assertEqual(kinds, {True, False})

    def test_tables_that_are_not_square(self):
        for height, width in sizes():
            for yes in [True, False]:
                self.assertIs(is_own_square(Table.filled(height, width, yes=yes)), height == width)
        self.answers(False, is_own_square, Table.filled(2, 3))
        self.answers(True, is_own_square, Table([]))
        self.answers(True, is_own_square, Table.of_lots([(0,), (0, 1)], 2))
        self.answers(False, is_own_square, Table.of_lots([(1,), (0,)], 2))

    def test_it_leads_back_for_itself(self):
        for table in SQUARES + [Table.same(6)]:
            if is_own_square(table):
                self.assertEqual(back_of(table, table), table)


class SquaresOfWay(Case):

    def test_of_all_crosswise_tables(self):
        for table in small_tables(4):
            for other in tables_of_size(table.width, table.height):
                self.same(squares_of_way(table, other), (then_of(table, other), then_of(other, table)))

    def test_of_a_way_both_are_their_own_squares_and_keep_the_joins(self):
        ways = [(table, other) for table in small_tables(6) for other in tables_of_size(table.width, table.height)
                if back_of(table, other) == table]
        ways += [(table, greatest_under_of(table)) for table in sample_tables(6)]
        for table, way in [(one, other) for one, other in ways if back_of(one, other) == one]:
            high, wide = squares_of_way(table, way)
            self.assertTrue(is_own_square(high) and is_own_square(wide))
            self.assertEqual([joined_of(wide), joins_of(columns_of(high))], [joined_of(table), joins_of(columns_of(table))])

    def test_by_position_and_by_name(self):
        table, other = Table.of_lots([(0, 1), ()], 3), Table.of_lots([(0,), (1,), ()], 2)
        self.answers((Table.of_lots([(0, 1), ()], 2), Table.of_lots([(0, 1), (), ()], 3)), squares_of_way, table, other)
        self.answers((Table([]), Table.filled(6, 6)), squares_of_way, Table([], width=6), Table([[]] * 6))
        self.answers((Table.filled(6, 6), Table([])), squares_of_way, Table([[]] * 6), Table([], width=6))

    def test_other_must_be_crosswise(self):
        for size, other in itertools.product(sizes(), sizes()):
            if other != (size[1], size[0]):
                told = {"first": size, "second": other}
                self.refused(UnlikeSizes, told, squares_of_way, Table.filled(*size), Table.filled(*other))
        self.refused_every_way(UnlikeSizes, {"first": (2, 3), "second": (3, 3)}, squares_of_way, Table.filled(2, 3),
                               Table.filled(3, 3))


class Rounds(Case):

    def test_word_by_word(self):
        lengths = set()
        for table in SQUARES:
            start, length, seen = walk(table)
            lengths.add((start, length))
            self.same([rounds(table), powers(table)], [(start, length), seen])
            exponent = [is_own_square_told(one) for one in seen].index(True) + 1
            self.same(settled(table), exponent)
            self.assertEqual(exponent, min(one for one in range(start, start + length) if one % length == 0))
        self.assertTrue({(1, 1), (1, 4), (2, 1), (4, 1), (2, 2), (1, 3), (10, 1)} <= lengths, lengths)

    def test_what_the_powers_are(self):
        for table in SQUARES[::9]:
            start, length = rounds(table)
            told = powers(table)
            self.assertEqual(len(told), start + length - 1)
            for exponent in range(1, 40):
                at = exponent - 1 if exponent < start else start - 1 + (exponent - start) % length
                self.same(power(table, exponent), told[at])
            for one, other in itertools.combinations(told, 2):
                self.assertNotEqual(one, other)

    def test_the_settled_power_is_its_own_square_and_none_before_it_is(self):
        for table in SQUARES[::9]:
            exponent = settled(table)
            self.assertEqual([is_own_square_told(power(table, one)) for one in range(1, exponent + 1)],
                             [False] * (exponent - 1) + [True])

    def test_example(self):
        self.same([rounds(THREE), settled(THREE), rounds(Table.of_lots([(1,), ()], 2)), rounds(Table.same(0))],
                  [(1, 3), 3, (2, 1), (1, 1)])

    def test_by_position_and_by_name(self):
        self.answers((1, 3), rounds, THREE)
        self.answers([THREE, THREE * THREE, Table.same(3)], powers, THREE)
        self.answers(3, settled, THREE)
        falling = Table.of_lots([(1,), (2,), (3,), ()], 4)
        self.answers((4, 1), rounds, falling)
        self.answers(4, settled, falling)

    def test_height_0_and_1(self):
        for table in [Table([]), Table.filled(1, 1), Table.same(1)]:
            self.answers((1, 1), rounds, table)
            self.answers([table], powers, table)
            self.answers(1, settled, table)

    def test_sides_4_5_and_6(self):
        self.same(POWER_LIMIT, 4)
        for function in [rounds, powers, settled]:
            function(Table.same(4))
            for many in (5, 6):
                for table in [Table.same(many), Table.filled(many, many), ~Table.same(many)]:
                    self.refused_every_way(TooMany, {"many": many, "limit": 4}, function, table)

    def test_tables_that_are_not_square(self):
        for function in [rounds, powers, settled]:
            for height, width in sizes():
                if height != width:
                    told = {"sides": (height, width)}
                    self.refused_every_way(NotSquare, told, function, Table.filled(height, width))
