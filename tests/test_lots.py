"""Point 10, and points 3 to 8 for the module lots."""

from greatestback.errors import BadLot, BadPlace
from greatestback.lots import (
    SIDE, all_lots, holds, is_lot, join_lots, lot_of, lot_without, meet_lots, sorted_lots,
)
from greatestback.tables import Table
from support import HUGE, ODD, Case, is_int
from support import is_lot as is_lot_told
from support import lot_order, lots_below

LOTS = lots_below(6)
BAD_LOTS = [value for value in ODD if not is_lot_told(value, 6)]
BAD_BOUNDS = [value for value in ODD if not is_int(value, 0, 6)]


class Judging(Case):

    def test_side(self):
        self.same(SIDE, 6)

    def test_each_lot_below_each_bound(self):
        for below in range(7):
            for lot in LOTS:
                self.answers(all(number < below for number in lot), is_lot, lot, below)

    def test_odd_values(self):
        for value in ODD:
            self.answers(is_lot_told(value, 6), is_lot, value)
            for below in range(7):
                self.answers(is_lot_told(value, below), is_lot, value, below)

    def test_the_bound_is_side_if_none_is_told(self):
        self.same([is_lot((0, 5)), is_lot((0, 6)), is_lot(value=(0, 5))], [True, False, True])

    def test_ascending_is_strict(self):
        for value in [(0, 0), (1, 0), (0, 2, 1), (0, 1, 1), (2, 3, 3, 4), (5, 4, 3, 2, 1, 0)]:
            self.answers(False, is_lot, value)

    def test_what_looks_like_a_lot(self):
        for value in [[0, 1], [], (True,), (False, 1), (0, True), ("0",), (0, None), (0, (1,)), (-1, 0), (0, HUGE)]:
            self.answers(False, is_lot, value)

    def test_a_bad_bound_is_refused_whatever_the_value_is(self):
        for below in BAD_BOUNDS:
            for value in [(), (0,), None, Table([]), [0]]:
                self.refused_every_way(BadPlace, {"place": below}, is_lot, value, below)


class Making(Case):

    def test_numbers_in_any_order_with_repeats(self):
        for lot in LOTS:
            for numbers in [lot, list(lot), lot[::-1], list(lot + lot), lot[1:] + lot[:1] + lot]:
                self.answers(lot, lot_of, numbers)

    def test_bounds(self):
        for below in range(7):
            for lot in LOTS:
                numbers = list(reversed(lot))
                if all(number < below for number in lot):
                    self.same(lot_of(numbers, below=below), lot)
                    self.same(lot_of(below=below, numbers=numbers), lot)
                else:
                    self.refused(BadLot, {"lot": numbers}, lot_of, numbers, below=below)

    def test_seventy_numbers(self):
        self.answers((0, 1, 2, 3, 4, 5), lot_of, [number // 12 for number in range(70)])

    def test_bad_numbers(self):
        for value in ODD:
            good = isinstance(value, (list, tuple)) and all(is_int(number, 0, 5) for number in value)
            if good:
                self.answers(tuple(sorted(set(value))), lot_of, value)
            else:
                self.refused_every_way(BadLot, {"lot": value}, lot_of, value)

    def test_one_bad_item_among_good_ones(self):
        for item in [True, False, None, -1, 6, HUGE, "0", (), (0,), [0], Table([])]:
            for numbers in [[0, item], (item, 0), [5, 0, item, 1]]:
                self.refused(BadLot, {"lot": numbers}, lot_of, numbers)

    def test_a_bad_bound_goes_first(self):
        for below in BAD_BOUNDS:
            for numbers in [[0], None, [None], (7,)]:
                self.refused(BadPlace, {"place": below}, lot_of, numbers, below=below)
                self.refused(BadPlace, {"place": below}, lot_of, below=below, numbers=numbers)

    def test_the_bound_is_passed_by_name_only(self):
        with self.assertRaises(TypeError):
            lot_of([0], 3)

    def test_example(self):
        self.same(lot_of([4, 0, 4], below=5), (0, 4))


class TwoLots(Case):

    def test_all_pairs(self):
        for first in LOTS:
            for second in LOTS:
                one, two = set(first), set(second)
                self.same(join_lots(first, second), tuple(sorted(one | two)))
                self.same(meet_lots(first, second), tuple(sorted(one & two)))
                self.same(lot_without(first, second), tuple(sorted(one - two)))
                self.same(holds(first, second), one >= two)

    def test_by_position_and_by_name(self):
        self.answers((0, 1, 2, 5), join_lots, (0, 2), (1, 2, 5))
        self.answers((2,), meet_lots, (0, 2), (1, 2, 5))
        self.answers((0,), lot_without, (0, 2), (1, 2, 5))
        self.answers(True, holds, (0, 2), (2,))
        self.answers(False, holds, (2,), (0, 2))

    def test_bad_lots(self):
        for function in [join_lots, meet_lots, lot_without, holds]:
            for bad in BAD_LOTS:
                for lot in [(), (0, 1)]:
                    self.refused_every_way(BadLot, {"lot": bad}, function, bad, lot)
                    self.refused_every_way(BadLot, {"lot": bad}, function, lot, bad)

    def test_the_first_bad_lot_is_told(self):
        for function in [join_lots, meet_lots, lot_without, holds]:
            self.refused_every_way(BadLot, {"lot": (6,)}, function, (6,), (True,))
            self.refused_every_way(BadLot, {"lot": [0]}, function, [0], None)


class Lists(Case):

    def test_lot_order(self):
        self.answers([(), (3,), (0, 1), (0, 2), (1, 2), (0, 1, 2)], sorted_lots,
                     [(0, 1, 2), (1, 2), (0, 2), (0, 1), (3,), ()])

    def test_all_lots_backwards_and_twice(self):
        self.answers(LOTS, sorted_lots, LOTS[::-1])
        self.answers(LOTS[:35], sorted_lots, tuple(LOTS[:35][::-1] + LOTS[:35]))
        self.answers([], sorted_lots, [])
        self.answers([()], sorted_lots, ((), ()))

    def test_the_first_bad_item_is_told(self):
        for bad in BAD_LOTS:
            self.refused_every_way(BadLot, {"lot": bad}, sorted_lots, [(0,), bad, (0,)])
            self.refused_every_way(BadLot, {"lot": bad}, sorted_lots, (bad, [0], None))
        self.refused_every_way(BadLot, {"lot": (6,)}, sorted_lots, [(), (6,), (True,), None])

    def test_items_are_looked_at_before_repeats_are_left_out(self):
        self.refused(BadLot, {"lot": (False,)}, sorted_lots, [(0,), (False,)])
        self.refused(BadLot, {"lot": (True,)}, sorted_lots, [(True,), (1,)])

    def test_all_lots(self):
        for below in range(7):
            self.answers(lots_below(below), all_lots, below)
            self.assertEqual(len(all_lots(below)), 2 ** below)
            self.assertEqual(all_lots(below), lot_order(all_lots(below)))

    def test_all_lots_of_a_bad_bound(self):
        for below in BAD_BOUNDS:
            self.refused_every_way(BadPlace, {"place": below}, all_lots, below)

    def test_example(self):
        self.same(sorted_lots([(0, 1), (3,), (), (0, 1)]), [(), (3,), (0, 1)])
