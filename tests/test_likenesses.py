"""Point 55: placings, and likenesses from one order to another."""

import itertools
import random

from greatestback.errors import BadPlace, NotOrder, NotSquare, TooMany
from greatestback.kin import are_kin, first_match
from greatestback.likenesses import (
    LIKENESS_LIMIT, first_likeness, is_likeness, is_placing, likenesses, place_order, placing_back, placing_then,
)
from greatestback.ordertable import is_order, order_of_pairs
from greatestback.tables import Table
from support import ODD, Case, is_int, near
from words import (
    fault_of, is_likeness_of, is_match_of, is_placing_told, likenesses_of, orders_below, some_orders, table_of,
)

SMALL = orders_below(3)
FOURS = [order for order in orders_below(4) if order.height == 4]
FIVES = [order for order in some_orders(3) if order.height == 5]
SIXES = [order for order in some_orders(3) if order.height == 6]
CHAIN = order_of_pairs(5, [(number + 1, number) for number in range(4)])
EXAMPLE = order_of_pairs(3, [(2, 0), (2, 1)])
NO_ORDERS = [(Table.filled(1, 1), ("self", 0)), (Table.filled(6, 6, yes=True), ("both", 0, 1)),
             (Table.of_lots([(0, 1), (1, 2), (2,)], 3), ("through", 0, 1, 2))]
NOT_SQUARE = [Table.filled(1, 2), Table([], width=6), Table([[]] * 2)]
# Placings of 0 to 6, all of the small ones and some of the others.
PLACINGS = [one for many in range(4) for one in itertools.permutations(range(many))]
PLACINGS += [one for many in (4, 5, 6) for one in itertools.permutations(range(many))][::37]
NO_PLACINGS = [tuple(range(7)), (1, 2, 3), (0, 0), (0, 1, 2, 3, 4, 6), (6,), tuple(range(6))[::-1] + (6,), [0, 1]]


def is_any_placing(value):
    return any(is_placing_told(value, many) for many in range(7))


def placed_of(order, placing):
    """The order with F[placing[i], placing[j]] equal to E[i, j]."""
    where = {number: place for place, number in enumerate(placing)}
    return table_of(order.height, order.height, lambda a, b: order.rows[where[a]][where[b]])


def drawn_order(source, many):
    """A drawn order: each thing has some of the things named before it below it, with all that is below those."""
    names, share, below = source.sample(range(many), many), source.choice([5, 20, 30, 40, 60]), {}
    for place, name in enumerate(names):
        lower = [one for one in names[:place] if source.randrange(100) < share]
        below[name] = {name}.union(*[below[one] for one in lower])
    return table_of(many, many, lambda i, j: j in below[i])


def one_pair_less(source, order):
    """The order without a drawn pair of a thing directly below another one, if it has such a pair."""
    below = {(i, j) for i, j in itertools.permutations(range(order.height), 2) if order.rows[i][j]}
    direct = sorted(below - {(i, k) for i, j in below for other, k in below if other == j})
    gone = source.choice(direct) if direct else None
    return table_of(order.height, order.height, lambda i, j: order.rows[i][j] and (i, j) != gone)


def drawn_pairs(many_pairs, seed=9):
    """Pairs of drawn orders of 0 to 5 things: alike ones, nearly alike ones, and any; the same ones in each run."""
    source = random.Random(seed)
    pairs = []
    for number in range(many_pairs):
        order = drawn_order(source, source.choice([0, 1, 2, 3, 4, 4, 5, 5, 5]))
        others = [order, order, Table(order.columns), one_pair_less(source, order),
                  drawn_order(source, order.height), drawn_order(source, source.randrange(6))]
        other = others[number % 6]
        pairs.append((order, placed_of(other, tuple(source.sample(range(other.height), other.height)))))
    return pairs


DRAWN = drawn_pairs(480)


class Placings(Case):

    def test_is_placing(self):
        for many in range(7):
            for value in PLACINGS + NO_PLACINGS + ODD:
                self.assertIs(is_placing(value, many), is_placing_told(value, many))
            for right in [tuple(range(many)), tuple(range(many))[::-1]]:
                self.answers(True, is_placing, right, many)
                for value in near(right):
                    self.assertIs(is_placing(value, many), is_placing_told(value, many))

    def test_how_many_there_are(self):
        for many in range(4):
            tuples = itertools.product(range(-1, 5), repeat=many)
            self.same([one for one in tuples if is_placing(one, many)], list(itertools.permutations(range(many))))

    def test_the_count_must_be_an_integer_from_0_to_6_whatever_the_value_is(self):
        for many in ODD:
            for value in [(), (0,), tuple(range(7)), None, [0], (0, 1)]:
                if not is_int(many, 0, 6):
                    self.refused_every_way(BadPlace, {"place": many}, is_placing, value, many)

    def test_first_then_second(self):
        for first in PLACINGS:
            for second in [one for one in PLACINGS if len(one) == len(first)][:12]:
                self.same(placing_then(first, second), tuple(second[first[i]] for i in range(len(first))))
        self.answers((2, 1, 0), placing_then, (1, 2, 0), (0, 2, 1))
        self.answers((1, 0, 2), placing_then, (0, 2, 1), (1, 2, 0))
        self.answers((), placing_then, (), ())
        self.answers((4, 3, 5, 1, 0, 2), placing_then, (5, 4, 3, 2, 1, 0), (2, 0, 1, 5, 3, 4))

    def test_the_inverse(self):
        for placing in PLACINGS:
            back = placing_back(placing)
            self.same([back[number] for number in placing], list(range(len(placing))))
            self.same([placing_then(placing, back), placing_then(back, placing)], [tuple(range(len(placing)))] * 2)
        self.answers((2, 0, 1), placing_back, (1, 2, 0))
        self.answers((), placing_back, ())
        self.answers((5, 0, 1, 2, 3, 4), placing_back, (1, 2, 3, 4, 5, 0))

    def test_no_placings(self):
        bad = [value for value in ODD + NO_PLACINGS + near((1, 0, 2)) + near((1, 2, 3, 4, 5, 0))
               if not is_any_placing(value)]
        for value in bad:
            self.refused_every_way(BadPlace, {"place": value}, placing_back, value)
            self.refused_every_way(BadPlace, {"place": value}, placing_then, value, (0, 1))
            self.refused_every_way(BadPlace, {"place": value}, placing_then, (1, 0), value)
            # The second one is not looked at if the first one is no placing.
            self.refused_every_way(BadPlace, {"place": value}, placing_then, value, None)

    def test_the_second_must_be_a_placing_of_as_many(self):
        for first, second in itertools.product([(), (0,), (1, 0), (2, 0, 1), tuple(range(6))], repeat=2):
            if len(first) != len(second):
                self.refused_every_way(BadPlace, {"place": second}, placing_then, first, second)


class Likenesses(Case):

    def test_all_pairs_of_small_orders(self):
        for order, other in itertools.product(SMALL, SMALL):
            told = likenesses_of(order, other)
            self.same(first_likeness(order, other), told[0] if told else None)
            for value in PLACINGS[:10]:
                self.assertIs(is_likeness(order, other, value), is_likeness_of(order, other, value))

    def test_orders_of_four_and_five(self):
        source = random.Random(11)
        for order in FOURS[::4] + FIVES + [Table.same(5), CHAIN]:
            self.same(likenesses(order), likenesses_of(order, order))
            placing = tuple(source.sample(range(order.height), order.height))
            other = placed_of(order, placing)
            self.same(first_likeness(order, other), likenesses_of(order, other)[0])
        for order, other in itertools.product(FOURS[::15], FOURS[::15]):
            told = likenesses_of(order, other)
            self.same(first_likeness(order, other), told[0] if told else None)
        for order, other in itertools.product(FIVES[:4] + [CHAIN], repeat=2):
            told = likenesses_of(order, other)
            self.same(first_likeness(order, other), told[0] if told else None)

    def test_likenesses_of_small_orders(self):
        for order in SMALL:
            self.same(likenesses(order), likenesses_of(order, order))

    def test_how_many(self):
        for many, count in enumerate([1, 1, 2, 6, 24, 120]):
            self.assertEqual(len(likenesses(Table.same(many))), count)
        self.answers([(0, 1, 2, 3, 4)], likenesses, CHAIN)
        self.answers([()], likenesses, Table([]))
        self.answers([(0,)], likenesses, Table.same(1))

    def test_likenesses_put_one_behind_another_and_their_inverses_are_likenesses(self):
        for order in SMALL + FOURS[::40]:
            told = likenesses(order)
            for first in told:
                self.assertIn(placing_back(first), told)
                self.assertTrue(all([placing_then(first, second) in told for second in told]))

    def test_between_alike_orders(self):
        for order in FOURS[::20] + SIXES[:3]:
            for first, second in [((1, 0, 2, 3), (3, 2, 0, 1)), ((5, 1, 2, 3, 4, 0), (1, 2, 3, 4, 5, 0))]:
                if len(first) == order.height:
                    middle = placed_of(order, first)
                    last = placed_of(middle, second)
                    self.assertIs(is_likeness(order, last, placing_then(first, second)), True)
                    self.assertIs(is_likeness(middle, order, placing_back(first)), True)

    def test_unlike_counts(self):
        orders = [Table.same(many) for many in range(6)] + [CHAIN]
        for order, other in itertools.product(orders, orders):
            if order.height != other.height:
                self.answers(None, first_likeness, order, other)
                for value in [tuple(range(order.height)), tuple(range(other.height)), (), None]:
                    self.answers(False, is_likeness, order, other, value)

    def test_none_where_only_one_cell_is_unlike(self):
        self.answers(None, first_likeness, EXAMPLE, order_of_pairs(3, [(0, 2), (1, 2)]))
        self.answers((1, 2, 0), first_likeness, EXAMPLE, order_of_pairs(3, [(0, 1), (0, 2)]))
        self.answers(None, first_likeness, Table.same(5), CHAIN)

    def test_example(self):
        self.same([likenesses(EXAMPLE), place_order(EXAMPLE, (1, 2, 0)).row_lots],
                  [[(0, 1, 2), (1, 0, 2)], [(0, 1, 2), (1,), (2,)]])
        self.answers([(0, 1, 2), (1, 0, 2)], likenesses, EXAMPLE)

    def test_judge_of_any_value(self):
        pairs = [(Table([]), Table([])), (EXAMPLE, EXAMPLE), (EXAMPLE, placed_of(EXAMPLE, (1, 2, 0))), (CHAIN, CHAIN),
                 (Table.same(6), Table.same(6)), (Table.same(1), Table.same(1)), (Table.same(2), Table.same(3))]
        for order, other in pairs:
            right = tuple(range(order.height))
            self.judges(is_likeness_of, is_likeness, [order, other], ODD + PLACINGS + [right] + near(right))
        self.answers(True, is_likeness, EXAMPLE, placed_of(EXAMPLE, (1, 2, 0)), (1, 2, 0))
        self.answers(False, is_likeness, EXAMPLE, placed_of(EXAMPLE, (1, 2, 0)), (2, 0, 1))
        self.answers(False, is_likeness, EXAMPLE, EXAMPLE, [0, 1, 2])

    def test_the_judge_has_no_limit(self):
        for order in SIXES:
            for placing in [one for one in PLACINGS if len(one) == 6]:
                other = placed_of(order, placing)
                self.assertIs(is_likeness(order, other, placing), True)
                self.assertIs(is_likeness(order, order, placing), other == order)


class DrawnOrders(Case):

    def test_the_pairs_are_of_each_kind(self):
        self.assertEqual({(fault_of(order), fault_of(other)) for order, other in DRAWN}, {(None, None)})
        self.assertEqual({order.height for order, _ in DRAWN}, set(range(6)))
        fives = [likenesses_of(order, other) for order, other in DRAWN if order.height == other.height == 5]
        self.assertGreater(len([found for found in fives if not found]), 40)
        self.assertGreater(len([found for found in fives if found and found[0] != (0, 1, 2, 3, 4)]), 40)
        self.assertLessEqual({0, 1, 2, 4, 6, 120}, {len(found) for found in fives})
        self.assertGreater(len([order for order, other in DRAWN if order.height != other.height]), 5)

    def test_each_answer_asked_twice_against_a_search_of_all_placings(self):
        for order, other in DRAWN:
            rows = order.rows, other.rows
            between, back = likenesses_of(order, other), likenesses_of(other, order)
            for _ in range(2):
                self.same(first_likeness(order, other), between[0] if between else None)
                self.same(first_likeness(other, order), back[0] if back else None)
                self.same(likenesses(order), likenesses_of(order, order))
                self.same(likenesses(other), likenesses_of(other, other))
            self.same((order.rows, other.rows), rows)

    def test_every_way_to_ask(self):
        for order, other in DRAWN[::5]:
            told = likenesses_of(order, other)
            self.answers(told[0] if told else None, first_likeness, order, other)
            self.answers(likenesses_of(order, order), likenesses, order)

    def test_orders_are_kin_just_where_they_are_alike(self):
        for order, other in DRAWN:
            alike = first_likeness(order, other) is not None
            for _ in range(2):
                self.assertIs(are_kin(order, other), alike)
                self.assertIs(first_match(order, other) is not None, alike)

    def test_first_matches_against_a_search_of_all_placings(self):
        for order, other in DRAWN[::8]:
            placings = itertools.permutations(range(order.height))
            told = [placing for placing in placings if is_match_of(order, other, placing)]
            self.same(first_match(order, other), told[0] if told else None)


class PlacedOrders(Case):

    def test_the_placing_is_a_likeness_to_the_order_placed_by_it(self):
        for order in SMALL + FOURS[::30] + SIXES:
            for placing in [one for one in PLACINGS if len(one) == order.height]:
                told = place_order(order, placing)
                self.same(told, placed_of(order, placing))
                self.assertIs(is_order(told), True)
                self.assertIs(is_likeness(order, told, placing), True)

    def test_placed_twice(self):
        for order in FOURS[::50]:
            for first, second in [((1, 2, 3, 0), (0, 2, 1, 3)), ((3, 1, 0, 2), (2, 3, 0, 1))]:
                self.same(place_order(place_order(order, first), second),
                          place_order(order, placing_then(first, second)))
                self.same(place_order(place_order(order, first), placing_back(first)), order)

    def test_by_position_and_by_name(self):
        self.answers(Table.of_lots([(0, 1, 2), (1,), (2,)], 3), place_order, EXAMPLE, (1, 2, 0))
        self.answers(Table([]), place_order, Table([]), ())

    def test_bad_placings_go_before_what_is_wrong_with_the_order(self):
        tables = [EXAMPLE, Table([]), Table.same(6)] + NOT_SQUARE + [table for table, _ in NO_ORDERS]
        for table in tables:
            for value in ODD + NO_PLACINGS + near(tuple(range(table.height))):
                if not is_placing_told(value, table.height):
                    self.refused_every_way(BadPlace, {"place": value}, place_order, table, value)

    def test_no_order(self):
        for table, fault in NO_ORDERS:
            right = tuple(range(table.height))
            self.refused_every_way(NotOrder, {"fault": fault}, place_order, table, right)
            self.refused_every_way(NotOrder, {"fault": fault}, place_order, table, right[::-1])
        for table in NOT_SQUARE:
            told = {"sides": (table.height, table.width)}
            self.refused_every_way(NotSquare, told, place_order, table, tuple(range(table.height)))


class Refusals(Case):

    def test_no_orders_in_each_place(self):
        for table, fault in NO_ORDERS:
            self.same(fault_of(table), fault)
            self.refused_every_way(NotOrder, {"fault": fault}, likenesses, table)
            for other in [EXAMPLE, Table.same(6), Table([])]:
                for places in [(table, other), (other, table)]:
                    self.refused_every_way(NotOrder, {"fault": fault}, first_likeness, *places)
                    for value in ODD[::9] + [(0, 1, 2)]:
                        self.refused_every_way(NotOrder, {"fault": fault}, is_likeness, *places, value)

    def test_tables_that_are_not_square_in_each_place(self):
        for table in NOT_SQUARE:
            told = {"sides": (table.height, table.width)}
            self.refused_every_way(NotSquare, told, likenesses, table)
            for other in [EXAMPLE, Table.same(6)]:
                for places in [(table, other), (other, table)]:
                    self.refused_every_way(NotSquare, told, first_likeness, *places)
                    for value in ODD[::9] + [(0, 1, 2)]:
                        self.refused_every_way(NotSquare, told, is_likeness, *places, value)

    def test_not_square_for_other_goes_before_not_order_for_order(self):
        for table, fault in NO_ORDERS:
            for other in NOT_SQUARE:
                told = {"sides": (other.height, other.width)}
                self.refused_every_way(NotSquare, told, first_likeness, table, other)
                self.refused_every_way(NotSquare, told, first_likeness, other, table)
                self.refused_every_way(NotSquare, told, is_likeness, table, other, (0,))
                self.refused_every_way(NotSquare, told, is_likeness, other, table, (0,))
        self.refused(NotSquare, {"sides": (1, 2)}, first_likeness, NOT_SQUARE[0], NOT_SQUARE[1])
        self.refused(NotOrder, {"fault": ("self", 0)}, first_likeness, NO_ORDERS[0][0], NO_ORDERS[2][0])

    def test_six_things(self):
        self.same(LIKENESS_LIMIT, 5)
        told = {"many": 6, "limit": 5}
        for order in SIXES + [Table.same(6)]:
            self.refused_every_way(TooMany, told, likenesses, order)
            for other in [Table.same(6), Table.same(5), Table([]), CHAIN, order]:
                self.refused_every_way(TooMany, told, first_likeness, order, other)
                self.refused_every_way(TooMany, told, first_likeness, other, order)

    def test_no_order_goes_before_too_many(self):
        for table, fault in NO_ORDERS:
            self.refused(NotOrder, {"fault": fault}, first_likeness, Table.same(6), table)
            self.refused(NotOrder, {"fault": fault}, first_likeness, table, Table.same(6))
        self.refused(NotSquare, {"sides": (1, 2)}, first_likeness, Table.same(6), NOT_SQUARE[0])
