"""Edits of tables, their inverses, and rows and columns in another sequence."""

from greatestback.behind import turned
from greatestback.checks import check_placing, is_number
from greatestback.errors import BadEdit, NoFit
from greatestback.lots import SIDE, is_lot
from greatestback.tables import Table, check_same_size

PARTS = {
    "set": ("number", "number", "bool"),
    "add row": ("number", "lot"),
    "drop row": ("number",),
    "add column": ("number", "lot"),
    "drop column": ("number",),
    "swap rows": ("number", "number"),
    "swap columns": ("number", "number"),
    "turn": (),
}

ROW_NAMES = {"add column": "add row", "drop column": "drop row", "swap columns": "swap rows"}


def is_edit(value):
    """True if value is an edit, whether or not it fits some table."""
    if not isinstance(value, tuple) or len(value) == 0 or not isinstance(value[0], str):
        return False
    kinds = PARTS.get(value[0])
    if kinds is None or len(value) != 1 + len(kinds):
        return False
    return all([_has_kind(part, kind) for part, kind in zip(value[1:], kinds)])


def _has_kind(part, kind):
    if kind == "number":
        return is_number(part, SIDE + 1)
    if kind == "lot":
        return is_lot(part)
    return isinstance(part, bool)


def check_edit(edit):
    """Raise BadEdit(edit) if edit is not an edit."""
    if not is_edit(edit):
        raise BadEdit(edit)


def _check_fit(table, edit):
    if not fits(table, edit):
        raise NoFit(edit)


def _as_row_edit(edit):
    """The edit of rows that does to a table turned over what an edit of columns does to the table."""
    return (ROW_NAMES[edit[0]],) + edit[1:]


def fits(table, edit):
    """True if the edit fits the table."""
    check_edit(edit)
    name = edit[0]
    if name == "turn":
        return True
    if name == "set":
        return edit[1] < table.height and edit[2] < table.width
    if name in ROW_NAMES:
        return fits(turned(table), _as_row_edit(edit))
    if name == "add row":
        return edit[1] <= table.height and table.height < SIDE and is_lot(edit[2], table.width)
    return all([number < table.height for number in edit[1:]])


def apply_edit(table, edit):
    """The table after the edit."""
    _check_fit(table, edit)
    name = edit[0]
    if name == "turn":
        return turned(table)
    if name == "set":
        return _with_cell(table, edit)
    if name in ROW_NAMES:
        return turned(apply_edit(turned(table), _as_row_edit(edit)))
    return Table.of_lots(_lots_after(table.row_lots, edit), table.width)


def _with_cell(table, edit):
    _, row, column, yes = edit
    rows = table.rows
    rows[row][column] = yes
    return Table(rows)


def _lots_after(lots, edit):
    """The lots of the rows after an edit that adds, drops or swaps rows."""
    place = edit[1]
    if edit[0] == "add row":
        return lots[:place] + [edit[2]] + lots[place:]
    if edit[0] == "drop row":
        return lots[:place] + lots[place + 1:]
    swapped = {place: edit[2], edit[2]: place}
    return [lots[swapped.get(number, number)] for number in range(len(lots))]


def inverse_edit(table, edit):
    """The inverse of the edit; table is the table before the edit."""
    _check_fit(table, edit)
    name = edit[0]
    if name == "set":
        return ("set", edit[1], edit[2], table[edit[1], edit[2]])
    if name == "add row":
        return ("drop row", edit[1])
    if name == "drop row":
        return ("add row", edit[1], table.row_lots[edit[1]])
    if name == "add column":
        return ("drop column", edit[1])
    if name == "drop column":
        return ("add column", edit[1], table.column_lots[edit[1]])
    return edit


def apply_edits(table, edits):
    """The table after the edits, each applied to the table that the one before leaves."""
    # No edit is applied before all are looked at: a bad one goes before one that does not fit.
    for edit in edits:
        check_edit(edit)
    result = table
    for edit in edits:
        result = apply_edit(result, edit)
    return result


def difference(first, second):
    """The list of the edits that set the unequal cells of first as in second, in row order."""
    check_same_size(first, second)
    cells = [(row, column) for row in range(first.height) for column in range(first.width)]
    return [("set", row, column, second[row, column]) for row, column in cells
            if first[row, column] != second[row, column]]


def place_rows(table, placing):
    """The table whose row i is row placing[i] of table."""
    check_placing(placing, table.height)
    lots = table.row_lots
    return Table.of_lots([lots[number] for number in placing], table.width)


def place_columns(table, placing):
    """The table whose column i is column placing[i] of table."""
    return turned(place_rows(turned(table), placing))
