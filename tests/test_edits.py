"""Points 18 and 19, and the placings of point 45 for rows and columns."""

import itertools

from greatestback.edits import (
    apply_edit, apply_edits, difference, fits, inverse_edit, is_edit, place_columns, place_rows,
)
from greatestback.errors import BadEdit, BadPlace, NoFit, UnlikeSizes
from greatestback.tables import Table
from support import HUGE, ODD, Case, is_int, is_lot, lots_below, sample_tables, sizes, small_tables, tables_of_size

KINDS = {
    "set": "nnb", "add row": "nl", "drop row": "n", "add column": "nl", "drop column": "n",
    "swap rows": "nn", "swap columns": "nn", "turn": "",
}
GOOD = {"n": [0, 1, 5, 6], "b": [True, False], "l": [(), (0,), (0, 1), (5,), (0, 1, 2, 3, 4, 5)]}
NUMBERS = list(range(7))


def is_part(value, kind):
    if kind == "n":
        return is_int(value, 0, 6)
    return is_lot(value, 6) if kind == "l" else type(value) is bool


def is_edit_told(value):
    """The list of point 18, written again."""
    if type(value) is not tuple or len(value) == 0 or type(value[0]) is not str or value[0] not in KINDS:
        return False
    kinds = KINDS[value[0]]
    return len(value) == len(kinds) + 1 and all(is_part(part, kind) for part, kind in zip(value[1:], kinds))


def good_edits():
    for name, kinds in KINDS.items():
        for parts in itertools.product(*[GOOD[kind] for kind in kinds]):
            yield (name,) + parts


def edits_near(table):
    """All edits whose numbers are up to one beyond the sides, with some lots."""
    numbers = range(min(max(table.size) + 2, 7))
    lots = [lot for lot in lots_below(min(max(table.size) + 1, 6)) if len(lot) in (0, 1, max(table.size))]
    values = {"n": numbers, "b": [True, False], "l": lots}
    for name, kinds in KINDS.items():
        for parts in itertools.product(*[values[kind] for kind in kinds]):
            yield (name,) + parts


def fits_told(table, edit):
    """The conditions of point 18, written again."""
    height, width = table.size
    name, parts = edit[0], edit[1:]
    return {
        "set": lambda: parts[0] < height and parts[1] < width,
        "add row": lambda: parts[0] <= height < 6 and all(k < width for k in parts[1]),
        "drop row": lambda: parts[0] < height,
        "add column": lambda: parts[0] <= width < 6 and all(i < height for i in parts[1]),
        "drop column": lambda: parts[0] < width,
        "swap rows": lambda: max(parts) < height,
        "swap columns": lambda: max(parts) < width,
        "turn": lambda: True,
    }[name]()


def cells_after(table, edit):
    """The size after a fitting edit, and for each cell what it is, from the words of point 18."""
    height, width = table.size
    name, parts = edit[0], edit[1:]
    old = {(i, k): table[i, k] for i in range(height) for k in range(width)}
    a = parts[0] if parts else None
    if name == "turn":
        return (width, height), {(k, i): yes for (i, k), yes in old.items()}
    if name == "set":
        return (height, width), {**old, (a, parts[1]): parts[2]}
    if name == "add row":
        moved = {(i + (i >= a), k): yes for (i, k), yes in old.items()}
        return (height + 1, width), {**moved, **{(a, k): k in parts[1] for k in range(width)}}
    if name == "add column":
        moved = {(i, k + (k >= a)): yes for (i, k), yes in old.items()}
        return (height, width + 1), {**moved, **{(i, a): i in parts[1] for i in range(height)}}
    if name == "drop row":
        return (height - 1, width), {(i - (i > a), k): yes for (i, k), yes in old.items() if i != a}
    if name == "drop column":
        return (height, width - 1), {(i, k - (k > a)): yes for (i, k), yes in old.items() if k != a}
    swap = {a: parts[1], parts[1]: a}
    if name == "swap rows":
        return (height, width), {(swap.get(i, i), k): yes for (i, k), yes in old.items()}
    return (height, width), {(i, swap.get(k, k)): yes for (i, k), yes in old.items()}


def is_placing_told(value, many):
    return type(value) is tuple and all(type(item) is int for item in value) and sorted(value) == list(range(many))


class Judging(Case):

    def test_each_kind_with_its_parts(self):
        for edit in good_edits():
            self.answers(True, is_edit, edit)

    def test_one_odd_part(self):
        for name, kinds in KINDS.items():
            good = (name,) + tuple(GOOD[kind][0] for kind in kinds)
            for at, kind in enumerate(kinds, start=1):
                for odd in ODD:
                    self.answers(is_part(odd, kind), is_edit, good[:at] + (odd,) + good[at + 1:])

    def test_too_few_and_too_many_parts(self):
        for edit in good_edits():
            for more in [0, True, None, (), (0,)]:
                self.answers(False, is_edit, edit + (more,))
            self.answers(False, is_edit, edit[:-1])
            self.answers(False, is_edit, list(edit))
            self.answers(False, is_edit, (edit,))

    def test_odd_values(self):
        for value in ODD:
            self.answers(is_edit_told(value), is_edit, value)

    def test_odd_names(self):
        for name in ODD + ["Set", "set ", "add", "row", "add_row", "addrow", "drop", "swap", "swap row", "undo", "TURN"]:
            for parts in [(), (0,), (0, 0), (0, 0, True), (0, (0,))]:
                self.answers(is_edit_told((name,) + parts), is_edit, (name,) + parts)

    def test_six_is_a_number_and_seven_is_not(self):
        self.same([is_edit(("drop row", 6)), is_edit(("drop row", 7)), is_edit(("drop row", -1))], [True, False, False])
        self.same([is_edit(("add row", 6, (5,))), is_edit(("add row", 6, (6,)))], [True, False])


class Fitting(Case):

    def test_each_edit_near_the_sides(self):
        tables = [Table.filled(height, width) for height, width in sizes()] + list(small_tables(2))
        for table in tables:
            for edit in edits_near(table):
                self.assertIs(fits(table, edit), fits_told(table, edit), (table.size, edit))

    def test_by_position_and_by_name(self):
        self.answers(True, fits, Table([[True]]), ("set", 0, 0, False))
        self.answers(False, fits, Table([[True]]), ("set", 0, 1, False))

    def test_just_and_just_not(self):
        table = Table.filled(2, 3)
        just = [("set", 1, 2, True), ("add row", 2, (2,)), ("drop row", 1), ("add column", 3, (1,)), ("drop column", 2),
                ("swap rows", 0, 1), ("swap rows", 1, 1), ("swap columns", 2, 2), ("swap columns", 0, 2), ("turn",)]
        not_just = [("set", 2, 2, True), ("set", 1, 3, True), ("add row", 3, ()), ("add row", 0, (3,)), ("drop row", 2),
                    ("add column", 4, ()), ("add column", 0, (2,)), ("drop column", 3), ("swap rows", 0, 2),
                    ("swap rows", 2, 0), ("swap columns", 3, 0), ("swap columns", 0, 3)]
        self.same([fits(table, edit) for edit in just], [True] * len(just))
        self.same([fits(table, edit) for edit in not_just], [False] * len(not_just))

    def test_side_6(self):
        full = Table.filled(6, 6)
        for name in ["add row", "add column"]:
            self.same([fits(full, (name, a, ())) for a in NUMBERS], [False] * 7)
        self.same([fits(Table.filled(5, 6), ("add row", a, (5,))) for a in NUMBERS], [True] * 6 + [False])
        self.same([fits(Table.filled(6, 5), ("add column", a, (5,))) for a in NUMBERS], [True] * 6 + [False])

    def test_the_number_6_fits_no_table(self):
        for height, width in sizes():
            table = Table.filled(height, width)
            for edit in good_edits():
                if 6 in edit:
                    self.assertIs(fits(table, edit), False)


class Applying(Case):

    def tables(self):
        return list(small_tables(3)) + list(sample_tables(1))

    def test_each_cell_after_each_edit(self):
        for table in self.tables():
            for edit in edits_near(table):
                if fits_told(table, edit):
                    size, cells = cells_after(table, edit)
                    after = apply_edit(table, edit)
                    self.same(after.size, size)
                    self.same({cell: after[cell] for cell in sorted(cells)}, {cell: cells[cell] for cell in sorted(cells)})
                    self.assertEqual(len(cells), size[0] * size[1])

    def test_the_inverse_leads_back(self):
        for table in self.tables():
            for edit in edits_near(table):
                if fits_told(table, edit):
                    inverse = inverse_edit(table, edit)
                    self.assertTrue(is_edit_told(inverse), inverse)
                    self.same(apply_edit(apply_edit(table, edit), inverse), table)

    def test_by_position_and_by_name(self):
        table = Table.of_lots([(0,), (0, 1)], 2)
        self.answers(Table.of_lots([(0,)], 2), apply_edit, table, ("drop row", 1))
        self.answers(("add row", 1, (0, 1)), inverse_edit, table, ("drop row", 1))

    def test_an_edit_that_does_not_fit(self):
        for table in self.tables():
            for edit in edits_near(table):
                if not fits_told(table, edit):
                    self.refused(NoFit, {"edit": edit}, apply_edit, table, edit)
                    self.refused(NoFit, {"edit": edit}, inverse_edit, table, edit)
        for edit in [("drop column", 6), ("add column", 6, (5,)), ("swap columns", 0, 6), ("set", 0, 6, True)]:
            self.refused_every_way(NoFit, {"edit": edit}, apply_edit, Table([]), edit)
            self.refused_every_way(NoFit, {"edit": edit}, inverse_edit, Table([]), edit)

    def test_no_edit(self):
        for value in ODD + [("set", 0, 0, 1), ("turn", 0), ["turn"], ("drop row", 7), ("drop row", True), (("turn",),)]:
            if not is_edit_told(value):
                for function in [fits, apply_edit, inverse_edit]:
                    for table in [Table([]), Table.filled(6, 6)]:
                        self.refused_every_way(BadEdit, {"edit": value}, function, table, value)

    def test_the_table_stays(self):
        table = Table.of_lots([(0,), (0, 1)], 2)
        for edit in edits_near(table):
            if fits_told(table, edit):
                apply_edit(table, edit)
                self.same(table.row_lots, [(0,), (0, 1)])


class Inverses(Case):

    def test_each_kind(self):
        table = Table.of_lots([(0, 2), (1,)], 3)
        told = {
            ("set", 0, 2, False): ("set", 0, 2, True),
            ("set", 0, 2, True): ("set", 0, 2, True),
            ("set", 1, 0, True): ("set", 1, 0, False),
            ("add row", 1, (0,)): ("drop row", 1),
            ("add row", 2, ()): ("drop row", 2),
            ("drop row", 0): ("add row", 0, (0, 2)),
            ("add column", 3, (0, 1)): ("drop column", 3),
            ("add column", 0, ()): ("drop column", 0),
            ("drop column", 1): ("add column", 1, (1,)),
            ("swap rows", 1, 0): ("swap rows", 1, 0),
            ("swap rows", 0, 1): ("swap rows", 0, 1),
            ("swap columns", 2, 0): ("swap columns", 2, 0),
            ("swap columns", 1, 1): ("swap columns", 1, 1),
            ("turn",): ("turn",),
        }
        for edit, inverse in told.items():
            self.answers(inverse, inverse_edit, table, edit)

    def test_example(self):
        self.same(inverse_edit(Table.of_lots([(0,), (0, 1)], 2), ("drop row", 1)), ("add row", 1, (0, 1)))


class ApplyingMany(Case):

    def test_none(self):
        for table in sample_tables(1):
            self.answers(table, apply_edits, table, [])
            self.same(apply_edits(table, ()), table)

    def test_each_is_applied_to_what_the_one_before_leaves(self):
        edits = [("add row", 0, ()), ("add column", 0, (0,)), ("add column", 1, ()), ("turn",), ("set", 1, 0, True),
                 ("swap rows", 0, 1), ("drop row", 1)]
        self.answers(Table([[True]]), apply_edits, Table([]), edits)
        self.answers(Table([[True]]), apply_edits, Table([]), tuple(edits))

    def test_sixty(self):
        self.answers(Table.filled(2, 3), apply_edits, Table.filled(2, 3), [("turn",)] * 60)
        self.answers(Table.filled(3, 2), apply_edits, Table.filled(2, 3), [("turn",)] * 59)

    def test_the_first_that_does_not_fit(self):
        table = Table.filled(1, 2)
        self.refused_every_way(NoFit, {"edit": ("drop row", 0)}, apply_edits, table,
                               [("drop row", 0), ("drop row", 0), ("drop row", 5)])
        self.refused_every_way(NoFit, {"edit": ("set", 0, 1, True)}, apply_edits, table,
                               (("turn",), ("set", 0, 1, True), ("set", 6, 6, True)))
        self.refused(NoFit, {"edit": ("swap columns", 0, 2)}, apply_edits, table, [("swap columns", 0, 2)])

    def test_no_edit_goes_first_whatever_stands_before_it(self):
        for value in ODD:
            if not is_edit_told(value):
                for before in [[], [("turn",)], [("drop row", 6)], [("drop row", 0), ("drop row", 0)]]:
                    edits = before + [value, None, ("drop row", 6)]
                    self.refused_every_way(BadEdit, {"edit": value}, apply_edits, Table([[True]]), edits)
                    self.refused(BadEdit, {"edit": value}, apply_edits, Table([[True]]), tuple(edits))


class Differences(Case):

    def test_all_pairs_of_small_tables(self):
        for size in [(0, 0), (0, 2), (2, 0), (1, 2), (2, 2), (3, 1)]:
            tables = list(tables_of_size(*size))
            for first in tables:
                for second in tables:
                    told = [("set", i, k, second[i, k]) for i in range(size[0]) for k in range(size[1])
                            if first[i, k] is not second[i, k]]
                    self.answers(told, difference, first, second)
                    self.same(apply_edits(first, difference(first, second)), second)

    def test_the_largest(self):
        edits = difference(Table.filled(6, 6), Table.filled(6, 6, yes=True))
        self.same(edits, [("set", i, k, True) for i in range(6) for k in range(6)])

    def test_unlike_sizes(self):
        for one, other in itertools.permutations([Table.filled(*size) for size in sizes()], 2):
            self.refused(UnlikeSizes, {"first": one.size, "second": other.size}, difference, one, other)
        self.refused_every_way(UnlikeSizes, {"first": (0, 1), "second": (1, 0)}, difference, Table([], width=1), Table([[]]))


class Placing(Case):

    def test_all_placings_of_small_sides(self):
        for table in list(sample_tables(1)):
            if table.height <= 4:
                for placing in itertools.permutations(range(table.height)):
                    self.same(place_rows(table, placing).rows, [table.rows[number] for number in placing])
                    self.same(place_rows(table, placing).size, table.size)
            if table.width <= 4:
                for placing in itertools.permutations(range(table.width)):
                    self.same(place_columns(table, placing).columns, [table.columns[number] for number in placing])
                    self.same(place_columns(table, placing).size, table.size)

    def test_by_position_and_by_name(self):
        table = Table.of_lots([(0,), (1,), (2, 3)], 4)
        self.answers(Table.of_lots([(1,), (2, 3), (0,)], 4), place_rows, table, (1, 2, 0))
        self.answers(Table.of_lots([(1,), (2,), (0, 3)], 4), place_columns, table, (3, 0, 1, 2))

    def test_side_6(self):
        table = Table.of_lots([(k,) for k in range(6)], 6)
        self.same(place_rows(table, (5, 3, 1, 0, 2, 4)).row_lots, [(5,), (3,), (1,), (0,), (2,), (4,)])
        self.same(place_columns(table, (5, 3, 1, 0, 2, 4)).column_lots, [(5,), (3,), (1,), (0,), (2,), (4,)])

    def test_bad_placings(self):
        odd = ODD + [(0, 1, 1), (0, 0, 0), [0, 1, 2], (0, 1, 3), (1, 2, 3), (-1, 0, 1), (0, 1, True), (0, True, 2),
                     (False, 1, 2), (0, 1), (0, 1, 2, 2), (0, 1, 2, 3), (0, [1], 2), (0, "1", 2), (2, 1, 0), (1, True)]
        for value in odd:
            for side in range(7):
                for function, table in [(place_rows, Table.filled(side, 1)), (place_columns, Table.filled(1, side))]:
                    if is_placing_told(value, side):
                        self.same(function(table, value), table)
                    else:
                        self.refused_every_way(BadPlace, {"place": value}, function, table, value)

    def test_numbers_far_outside(self):
        self.refused(BadPlace, {"place": (0, HUGE)}, place_rows, Table.filled(2, 2), (0, HUGE))
