"""An engine: names with one table each, and deeds that can be undone and done again."""

from greatestback.behind import then
from greatestback.checks import check_many
from greatestback.edits import apply_edit, check_edit
from greatestback.errors import BadName, NoName
from greatestback.kin import are_kin
from greatestback.kinorder import kin_order
from greatestback.ranks import column_rank, row_rank
from greatestback.solve import solve_right
from greatestback.verdict import verdict_of
from greatestback.wayback import way_paper

NAME_LIMIT = 8
LETTERS = "abcdefghijklmnopqrstuvwxyz"


def _is_name(value):
    """True if value is a string of one to eight lower-case letters."""
    return isinstance(value, str) and 1 <= len(value) <= 8 and all([sign in LETTERS for sign in value])


def _check_name(name):
    if not _is_name(name):
        raise BadName(name)


class Engine:
    """An engine. It begins with no names."""

    def __init__(self):
        # What was held at first, and what each deed left, also the deeds that are undone now.
        self._states = [{}]
        self._place = 0

    def _held(self):
        """The dict of the tables that are held now, by their names."""
        return self._states[self._place]

    def _do(self, tables):
        """Do a deed that leaves these tables. What was undone is forgotten."""
        self._states = self._states[:self._place + 1] + [tables]
        self._place += 1

    def _put(self, name, table):
        """Do the deed that gives the name this table."""
        tables = dict(self._held())
        tables[name] = table
        check_many(len(tables), NAME_LIMIT)
        self._do(tables)

    def _tables_of(self, names):
        """The list of the tables of the names. Raises BadName before NoName, each for the first such name."""
        for name in names:
            _check_name(name)
        held = self._held()
        for name in names:
            if name not in held:
                raise NoName(name)
        return [held[name] for name in names]

    @property
    def names(self):
        """The list of the names held, in alphabetical order."""
        return sorted(list(self._held()))

    @property
    def done(self):
        """The count of deeds that undo can take back."""
        return self._place

    @property
    def undone(self):
        """The count of deeds that redo can do again."""
        return len(self._states) - 1 - self._place

    def __contains__(self, x):
        return _is_name(x) and x in self._held()

    def store(self, name, table):
        """Let the name have that table."""
        _check_name(name)
        self._put(name, table)

    def fetch(self, name):
        """The table of the name."""
        return self._tables_of([name])[0]

    def drop(self, name):
        """Let the name no longer be held."""
        self._tables_of([name])
        self._do({other: table for other, table in self._held().items() if other != name})

    def change(self, name, edit):
        """Apply the edit to the table of the name."""
        _check_name(name)
        check_edit(edit)
        self._put(name, apply_edit(self.fetch(name), edit))

    def compose(self, name, first, second):
        """Let the name have the table of first then the table of second."""
        _check_name(name)
        one, other = self._tables_of([first, second])
        self._put(name, then(one, other))

    def undo(self):
        """Take back the latest deed that is not undone. True if there was one."""
        if self.done == 0:
            return False
        self._place -= 1
        return True

    def redo(self):
        """Do the latest undone deed again. True if there was one."""
        if self.undone == 0:
            return False
        self._place += 1
        return True

    def way_of(self, name):
        """The way paper of the table of the name."""
        return way_paper(self.fetch(name))

    def order_of(self, name):
        """The kin order of the table of the name."""
        return kin_order(self.fetch(name))

    def ranks_of(self, name):
        """The pair of the row rank and the column rank of the table of the name."""
        table = self.fetch(name)
        return (row_rank(table), column_rank(table))

    def verdict_for(self, name):
        """The verdict of the program for the table of the name."""
        return verdict_of(self.fetch(name))

    def kin_of(self, first, second):
        """True if the tables of the two names are kin."""
        one, other = self._tables_of([first, second])
        return are_kin(one, other)

    def solve_of(self, first, second):
        """The solution pair of A X = B, with A the table of first and B the table of second."""
        one, other = self._tables_of([first, second])
        return solve_right(one, other)
