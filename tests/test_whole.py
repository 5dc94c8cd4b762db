"""Point 2, and what the document promises across the modules: they agree with each other over tables of every size."""

from greatestback.blocks import block_factors, fewest_blocks, greatest_blocks, is_cover, prime_blocks
from greatestback.classsize import class_by_trying, class_size, class_tables, likeness_of
from greatestback.engine import Engine
from greatestback.errors import NoWayBack
from greatestback.greatest import back_and_forth
from greatestback.kin import are_kin, first_match, kin_difference
from greatestback.kinorder import is_kin_order, kin_order, order_paper, order_things
from greatestback.likenesses import first_likeness, is_likeness, likenesses, place_order
from greatestback.ordertable import is_order
from greatestback.overand import is_spread_fault, spread_fault, spreads, turned_fault
from greatestback.primes import bad_row, bad_rows, prime_rows
from greatestback.ranks import apart_cells, apart_rank, block_rank, column_rank, is_rank_paper, rank_paper, row_rank
from greatestback.rectangular import is_rectangular, thrice
from greatestback.rounds import is_own_square, squares_of_way
from greatestback.script import run_script
from greatestback.tables import Table
from greatestback.tabletext import format_word
from greatestback.unmade import core, unmade_columns, unmade_rows
from greatestback.verdict import is_verdict, read_verdict, verdict_lines, verdict_of
from greatestback.wayback import all_ways, is_way_paper, leads_back, mutual_way, small_way, way_back, way_paper
from support import Case, refusal, sample_tables, small_tables, tables_of_size
from words import bad_of, joined_of, orders_below, some_orders

THREE = Table.of_lots([(0, 1), (0, 2), (1, 2)], 3)
TABLES = list(small_tables(6)) + list(tables_of_size(3, 3))[::9] + list(sample_tables(4, seed=18))
TABLES += [Table.same(6), ~Table.same(6), THREE] + some_orders(2)
# Most of the tables above lead back.
TABLES += [table for table in sample_tables(12, seed=19) if bad_of(table)][::2]
BACK = [table for table in TABLES if way_back(table) is not None]
BAD = [table for table in TABLES if way_back(table) is None]
ORDERS = orders_below(3)


class TogetherOrNot(Case):

    def test_both_kinds_of_tables_are_there(self):
        self.assertGreater(len(BACK), 200)
        self.assertGreater(len(BAD), 20)

    def test_each_unmade_row_is_prime(self):
        for table in TABLES:
            back = table in BACK
            self.assertIs(prime_rows(table) == unmade_rows(table), back)
            self.assertIs(bad_rows(table) == [], back)
            self.assertIs(bad_row(table) is None, back)

    def test_both_and_either_spread(self):
        for table in TABLES:
            back = table in BACK
            self.assertIs(spreads(table), back)
            if len(joined_of(table)) <= 16:
                self.assertIs(spread_fault(table) is None, back)
                self.assertIs(turned_fault(table) is None, back)
            if not back:
                self.assertIs(is_spread_fault(table, bad_row(table)), True)

    def test_kin_to_the_table_of_an_order(self):
        for table in TABLES:
            if table in BACK:
                order = kin_order(table)
                self.assertIs(is_order(order), True)
                self.assertIs(is_kin_order(table, order, order_paper(table)), True)
                if order.height <= 5:
                    self.assertIs(are_kin(table, order), True)
                    self.assertIsNone(kin_difference(order, table))
            else:
                self.assertIs(refusal(kin_order, table), NoWayBack)

    def test_to_no_order_if_none_leads_back(self):
        for table in [one for one in BAD if len(unmade_rows(one)) <= 5]:
            self.assertEqual([order for order in ORDERS if are_kin(table, order)], [])

    def test_all_orders_that_it_is_kin_to_are_alike(self):
        for table in [one for one in BACK if row_rank(one) <= 3][::3]:
            kin = [order for order in ORDERS if are_kin(table, order)]
            alike = [order for order in ORDERS if first_likeness(kin_order(table), order) is not None]
            self.same(kin, alike)
            self.assertIn(kin_order(table), kin)

    def test_way_papers_and_verdicts(self):
        for table in TABLES:
            kind = "back" if table in BACK else "bad"
            self.same([way_paper(table)[0], verdict_of(table)[0]], [kind, kind])
            self.same(verdict_of(table)[:2], way_paper(table))
            self.assertIs(is_way_paper(table, verdict_of(table)[:2]), True)
            self.assertIs(is_verdict(table, verdict_of(table)), True)
            self.same(read_verdict(verdict_lines(verdict_of(table))), verdict_of(table))


class OneNumber(Case):

    def test_of_a_table_for_which_one_leads_back(self):
        for table in BACK:
            counts = [row_rank(table), len(unmade_columns(table)), block_rank(table), apart_rank(table),
                      small_way(table).many_yes, len(order_things(table)), len(prime_blocks(table)), len(apart_cells(table)),
                      rank_paper(table)[0], column_rank(table), kin_order(table).height, verdict_of(table)[4][0]]
            self.same(counts, [len(unmade_rows(table))] * len(counts))
            self.assertIs(is_rank_paper(table, rank_paper(table)), True)
            if table.height * table.width <= 16:
                self.assertEqual(len(fewest_blocks(table)), row_rank(table))

    def test_the_least_count_of_yes_cells_of_all_ways(self):
        for table in [one for one in BACK if one.height * one.width <= 6][::2] + [Table.same(3)]:
            self.assertEqual(min([way.many_yes for way in all_ways(table)]), row_rank(table))

    def test_as_many_tables_with_the_same_joins_as_likenesses(self):
        for table in [one for one in BACK if row_rank(one) <= 5]:
            many = len(likenesses(kin_order(table)))
            self.assertEqual(class_size(table), many)
            if table.height * table.width <= 6 or table == Table.same(3):
                self.assertEqual(len(class_by_trying(table)), many)

    def test_blocks_of_ranks_and_factors(self):
        for table in BACK:
            left, right = block_factors(table, prime_blocks(table))
            self.same([left * right, right.height], [table, row_rank(table)])
            self.assertIs(is_cover(table, greatest_blocks(table)), True)


class Kin(Case):

    def test_the_core(self):
        for table in TABLES:
            middle = core(table)
            self.same(way_back(middle) is None, table in BAD)
            if row_rank(table) <= 5:
                self.assertIs(are_kin(table, middle), True)
                if table in BACK:
                    self.assertIsNotNone(first_likeness(kin_order(table), kin_order(middle)))

    def test_an_order_is_alike_to_its_kin_order(self):
        for order in ORDERS + [one for one in some_orders(3) if one.height == 5]:
            told = kin_order(order)
            self.assertIsNotNone(first_likeness(order, told))
            things = order_things(order)
            placing = tuple(things.index(row) for row in order.row_lots)
            self.assertIs(is_likeness(order, told, placing), True)
            self.same(place_order(order, placing), told)

    def test_matches_between_orders_and_their_likenesses(self):
        for order in ORDERS:
            for other in ORDERS[::4]:
                self.assertIs(first_match(order, other) is None, first_likeness(order, other) is None)

    def test_orders_placed_otherwise_have_the_same_kin(self):
        for table in [one for one in BACK if row_rank(one) == 3][:20]:
            for placing in [(1, 2, 0), (2, 1, 0)]:
                self.assertIs(are_kin(table, place_order(kin_order(table), placing)), True)

    def test_tables_of_a_class_are_kin_and_lead_back(self):
        for table in [one for one in BACK if row_rank(one) <= 4][::5]:
            for other in class_tables(table)[:4]:
                self.assertIs(are_kin(table, other), True)
                self.assertIsNotNone(way_back(other))
                self.assertIsNotNone(likeness_of(other, table))


class Ways(Case):

    def test_squares_of_ways(self):
        for table in BACK:
            for way in [way_back(table), small_way(table), mutual_way(table)]:
                self.assertIs(leads_back(table, way), True)
                self.assertTrue(all([is_own_square(one) for one in squares_of_way(table, way)]))

    def test_rectangular_tables(self):
        for table in TABLES:
            if is_rectangular(table):
                self.assertIn(table, BACK)
                self.same([thrice(table), kin_order(table)], [table, Table.same(row_rank(table))])

    def test_its_own_square_leads_back_for_itself(self):
        for table in TABLES:
            if is_own_square(table):
                self.assertIn(table, BACK)
                self.same(back_and_forth(table, table), table)


class EnginesAndScripts(Case):

    def test_they_answer_as_the_modules_do(self):
        for table in TABLES[::3]:
            engine = Engine()
            engine.store("a", table)
            self.same([engine.way_of("a"), engine.verdict_for("a")], [way_paper(table), verdict_of(table)])
            self.same(engine.ranks_of("a"), (row_rank(table), column_rank(table)))
            answers = run_script(f"put a {format_word(table)}\nway a\norder a\nrank a\nshow a")
            if table in BACK:
                self.same(answers[1:3], ["back " + format_word(way_back(table)), format_word(kin_order(table))])
            else:
                bad = [line.split(" ")[1] for line in verdict_lines(verdict_of(table))[1:]]
                self.same(answers[1:3], [" ".join(["bad"] + bad), "refused NoWayBack"])
            self.same(answers[3:], [f"ranks {row_rank(table)} {column_rank(table)}", format_word(table)])
