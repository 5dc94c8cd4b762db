"""No call takes long, the largest tables and the most joined rows included."""

import time
import unittest
from itertools import product

from greatestback.behind import power, then_all
from greatestback.blocks import block_factors, block_table, fewest_blocks, greatest_blocks, is_cover
from greatestback.classsize import class_by_trying, class_size, class_tables, likeness_of, same_joins
from greatestback.edits import apply_edits, difference
from greatestback.engine import Engine
from greatestback.greatest import barring_cell, greatest_under, is_greatest_under, is_under
from greatestback.joins import joined_columns, joined_rows
from greatestback.kin import (
    across_paper, are_kin, back_paper, carry, chain_papers, first_match, is_kin_paper, is_match, kin_difference,
    kin_paper, match_of_paper, paper_of_match,
)
from greatestback.kinorder import down_of_row, is_kin_order, kin_order, order_paper, row_of_down
from greatestback.lattice import Lattice
from greatestback.likenesses import first_likeness, is_likeness, likenesses, place_order
from greatestback.ordertable import (
    beside, direct_pairs, down_lots, down_of, is_down_lot, order_fault, order_of_pairs, up_lots,
)
from greatestback.overand import is_spread_fault, is_turned_fault, spread_fault, spreads, turned_fault
from greatestback.primes import bad_paper, bad_row, bad_rows, is_bad_paper, own_columns, prime_paper, prime_rows
from greatestback.ranks import apart_rank, are_apart, block_rank, column_rank, is_rank_paper, rank_paper, row_rank
from greatestback.rectangular import rectangles, rectangular_fault, thrice
from greatestback.rounds import is_own_square, powers, rounds, settled, squares_of_way
from greatestback.script import parse_command, run_line, run_script
from greatestback.solve import is_bar_both, solve_both, solve_by_way, solve_left, solve_right
from greatestback.tables import Table
from greatestback.unmade import core, first_columns, is_unmade, makers, unmade_factors, unmet_rows
from greatestback.verdict import is_verdict, read_verdict, verdict_lines, verdict_of
from greatestback.wayback import all_ways, is_way_paper, leads_back, mutual_way, small_way, way_back, way_paper

# Far more than any call needs, and far less than one that tries all choices of 64 joined rows.
SECONDS = 2

# So many calls for likenesses or matches of five things take no longer than that together.
CALLS = 200

# The first one has 64 joined rows, the last one 40 and a bad row.
LARGEST = [Table.same(6), ~Table.same(6), Table.filled(6, 6, yes=True),
           Table.of_lots([(0, 1), (0, 2), (1, 2), (3,), (4,), (5,)], 6)]


class Speed(unittest.TestCase):

    def at_once(self, function, *args):
        before = time.process_time()
        result = function(*args)
        self.assertLess(time.process_time() - before, SECONDS, function)
        return result

    def test_powers_and_products(self):
        for table in LARGEST:
            self.at_once(power, table, 64)
            self.at_once(then_all, [table] * 8)

    def test_edits(self):
        for table in LARGEST:
            self.at_once(difference, table, ~table)
            self.at_once(apply_edits, table, [("swap columns", 0, 5), ("drop column", 5), ("add column", 0, (0, 3))] * 20)

    def test_joined_rows_and_lattices(self):
        for table in LARGEST:
            self.at_once(joined_rows, table)
            self.at_once(joined_columns, table)
            lattice = self.at_once(Lattice, table)
            self.at_once(lattice.longest)
            self.at_once(lattice.both_all, (list(lattice) * 64)[:70])
            self.at_once(lattice.either_all, (list(lattice) * 64)[:70])
            for function in [lattice.under, lattice.over, lattice.next_over, lattice.place_of]:
                self.at_once(function, lattice.bottom)
                self.at_once(function, lattice.top)

    def test_unmade_and_prime_rows(self):
        for table in LARGEST:
            for function in [core, first_columns, unmade_factors, unmet_rows, prime_rows, bad_rows, bad_row, spreads]:
                self.at_once(function, table)
            for function in [is_unmade, makers, own_columns, prime_paper, bad_paper]:
                self.at_once(function, table, (0, 1, 2, 3, 4, 5))
            self.at_once(is_bad_paper, table, ((0, 1), (0, 2), (1, 2)))

    def test_faults(self):
        for function in [is_spread_fault, is_turned_fault]:
            for table in LARGEST:
                self.at_once(function, table, ((0, 1), (0, 2), (0, 1, 2, 3, 4, 5)))
        for function in [spread_fault, turned_fault]:
            self.at_once(function, Table.of_lots([(0,), (1,), (2,), (3, 4, 5)] + [(0, 1)] * 2, 6))
            self.at_once(function, ~Table.same(6))

    def test_ways(self):
        for table in LARGEST:
            way = self.at_once(greatest_under, table)
            for function in [is_under, is_greatest_under, leads_back]:
                self.at_once(function, table, way)
            for function in [way_back, way_paper]:
                self.at_once(function, table)
            self.at_once(is_way_paper, table, ("back", way))
            self.at_once(barring_cell, table, 5, 5)
        self.at_once(small_way, Table.same(6))
        self.at_once(mutual_way, Table.same(6))

    def test_all_ways_of_nine_cells(self):
        for table in [Table.same(3), Table.filled(3, 3), Table.filled(3, 3, yes=True)]:
            self.at_once(all_ways, table)

    def test_equations(self):
        for first in LARGEST:
            for second in LARGEST:
                self.at_once(solve_right, first, second)
                self.at_once(solve_left, first, second)
                self.at_once(solve_both, first, second, ~first)
                self.at_once(is_bar_both, first, second, ~first, (5, 5))
        self.at_once(solve_by_way, Table.same(6), ~Table.same(6))

    def test_64_joined_rows_on_both_sides(self):
        table, match = Table.same(6), (5, 3, 1, 0, 2, 4)
        paper = self.at_once(paper_of_match, table, table, match)
        self.at_once(is_match, table, table, match)
        self.at_once(carry, table, table, match, (0, 1, 2, 3, 4, 5))
        for function in [is_kin_paper, match_of_paper, back_paper, across_paper]:
            self.at_once(function, table, table, paper)
        self.at_once(chain_papers, table, table, table, paper, paper)
        self.at_once(is_kin_order, table, table, paper)
        for other in LARGEST[1:]:
            self.at_once(is_match, table, other, match)

    def test_five_unmade_rows_with_a_match_and_without(self):
        rows = [(1, 2), (0,), (0, 2), (3,), (4,)]
        tables = [Table.same(5), Table.of_lots([(0, 1), (0, 2), (1, 2), (3,), (4,)], 5), Table.of_lots(rows, 5)]
        for first in tables:
            for second in tables:
                for function in [first_match, kin_paper, are_kin, kin_difference]:
                    self.at_once(function, first, second)

    def test_orders(self):
        chain = self.at_once(order_of_pairs, 6, [(number + 1, number) for number in range(5)] * 14)
        for order in [chain, Table.same(6)]:
            for function in [order_fault, direct_pairs, down_lots, up_lots, kin_order, order_paper]:
                self.at_once(function, order)
            for function in [down_of, is_down_lot, down_of_row, row_of_down]:
                self.at_once(function, order, (0, 1, 2, 3, 4, 5))
        self.at_once(beside, Table.same(3), Table.same(3))

    def test_likenesses_of_five_things_and_placings_of_six(self):
        chain = order_of_pairs(5, [(number + 1, number) for number in range(4)])
        nearly = order_of_pairs(5, [(4, 0)])
        for order in [chain, nearly, Table.same(5)]:
            self.at_once(likenesses, order)
            for other in [chain, nearly, order_of_pairs(5, [(4, 0), (4, 1)])]:
                self.at_once(first_likeness, order, other)
        self.at_once(is_likeness, Table.same(6), Table.same(6), (5, 4, 3, 2, 1, 0))
        self.at_once(place_order, Table.same(6), (5, 4, 3, 2, 1, 0))

    def test_many_calls_for_likenesses_and_matches_of_five_things(self):
        chain = Table([[j >= i for j in range(5)] for i in range(5)])
        orders = [Table.same(5), chain, order_of_pairs(5, [(4, 0)])]
        for order in orders:
            for function in [likenesses, class_size]:
                self.at_once(lambda: [function(order) for _ in range(CALLS)])
            for other in orders:
                for function in [first_likeness, first_match, are_kin]:
                    self.at_once(lambda: [function(order, other) for _ in range(CALLS)])

    def test_classes(self):
        self.assertEqual(len(self.at_once(class_tables, Table.same(5))), 120)
        self.at_once(class_size, Table.same(5))
        self.at_once(same_joins, Table.same(6), ~Table.same(6))
        for other in [Table.of_lots([(5,), (4,), (3,), (2,), (1,), (0,)], 6), ~Table.same(6)]:
            self.at_once(likeness_of, Table.same(6), other)
        for table in [Table.same(3), ~Table.same(3), Table.filled(3, 3)]:
            self.at_once(class_by_trying, table)

    def test_rounds_and_rectangles(self):
        for table in [Table.same(4), Table.of_lots([(1,), (2,), (3,), (0, 1)], 4)]:
            for function in [rounds, powers, settled]:
                self.at_once(function, table)
        for table in LARGEST:
            for function in [is_own_square, thrice, rectangular_fault]:
                self.at_once(function, table)
            self.at_once(squares_of_way, table, table)
        self.at_once(rectangles, Table.same(6))

    def test_blocks(self):
        for table in LARGEST:
            blocks = self.at_once(greatest_blocks, table)
            self.at_once(is_cover, table, (blocks * 70)[:70])
            self.at_once(block_table, (blocks * 70)[:70], 6, 6)
        self.at_once(block_factors, Table.same(6), greatest_blocks(Table.same(6)))

    def test_16_cells(self):
        tables = [~Table.same(4), Table.same(4), Table.filled(4, 4), Table.filled(4, 4, yes=True),
                  Table.of_lots([(0, 2), (1, 3), (0, 2, 3), (1, 2, 3)], 4)]
        tables += [Table.of_lots(lots, 4) for lots in product([(0, 1), (0, 1, 2), (1, 2, 3), (0, 3)], repeat=4)][::9]
        for table in tables + [~Table.filled(3, 5), Table.of_lots([(0, 1, 2), (1, 2, 3), (0, 3, 4)], 5)]:
            for function in [fewest_blocks, block_rank, apart_rank]:
                self.at_once(function, table)

    def test_ranks_and_verdicts(self):
        for table in LARGEST:
            self.at_once(row_rank, table)
            self.at_once(column_rank, table)
            self.at_once(are_apart, table, [(number, number) for number in range(6)] * 11)
            verdict = self.at_once(verdict_of, table)
            self.at_once(is_verdict, table, verdict)
            self.at_once(read_verdict, self.at_once(verdict_lines, verdict))
        self.at_once(is_rank_paper, Table.same(6), self.at_once(rank_paper, Table.same(6)))

    def test_an_engine_with_200_deeds(self):
        engine = Engine()
        for number in range(200):
            engine.store("abcdefgh"[number % 8], LARGEST[number % 4])
        for function in [engine.undo, engine.redo]:
            self.at_once(lambda: [function() for _ in range(200)])
        for name in engine.names:
            for function in [engine.way_of, engine.ranks_of, engine.verdict_for]:
                self.at_once(function, name)
        self.at_once(engine.solve_of, "a", "b")

    def test_scripts(self):
        five = "5:5:x..../.x.../..x../...x./....x"
        for line in ["kin a a", "solve a a", "then b a a", "way a", "rank a", "put b " + five]:
            self.at_once(run_script, f"put a {five}\n" + "\n".join([line] * 59))
        for line in [" " * 4000, "a " * 2000, "put a " + "0:0:" * 990, "show " + "a" * 3995]:
            self.at_once(run_line, Engine(), line)
        self.at_once(parse_command, "put a " + five)
