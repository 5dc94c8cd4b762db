"""The joined rows of a table, with either and both."""

from greatestback.errors import NotJoined
from greatestback.joins import inner, joined_rows
from greatestback.lots import check_lot, holds, is_lot, join_all


class Lattice:
    """The joined rows of a table. It is never changed."""

    def __init__(self, table):
        self._table = table
        self._joined = tuple(joined_rows(table))

    def _check(self, lots):
        """Raise BadLot for the first item that is no lot below the width, or else NotJoined."""
        for lot in lots:
            check_lot(lot, self._table.width)
        for lot in lots:
            if lot not in self._joined:
                raise NotJoined(lot)

    @property
    def table(self):
        """The table whose joined rows these are."""
        return self._table

    @property
    def how_many(self):
        """The count of joined rows."""
        return len(self._joined)

    @property
    def bottom(self):
        """The empty lot."""
        return self._joined[0]

    @property
    def top(self):
        """The join of all rows."""
        return self._joined[-1]

    def __iter__(self):
        return iter(self._joined)

    def __contains__(self, x):
        # Only a lot is compared: (False,) would be equal to the lot (0,).
        return is_lot(x, self._table.width) and x in self._joined

    def place_of(self, lot):
        """The number of the joined row in lot order."""
        self._check([lot])
        return self._joined.index(lot)

    def either(self, first, second):
        """The join of two joined rows."""
        return self.either_all([first, second])

    def both(self, first, second):
        """The inner row of the common part of two joined rows."""
        return self.both_all([first, second])

    def either_all(self, lots):
        """The join of joined rows; of none, the bottom."""
        self._check(lots)
        return join_all(lots)

    def both_all(self, lots):
        """The inner row of the common part of joined rows; of none, the top."""
        self._check(lots)
        columns = range(self._table.width)
        common = tuple([column for column in columns if all([column in lot for lot in lots])])
        return inner(self._table, common)

    def under(self, lot):
        """The list of the joined rows that are within lot."""
        self._check([lot])
        return [joined for joined in self._joined if holds(lot, joined)]

    def over(self, lot):
        """The list of the joined rows that hold lot."""
        self._check([lot])
        return [joined for joined in self._joined if holds(joined, lot)]

    def next_over(self, lot):
        """The list of the joined rows directly above lot."""
        above = [joined for joined in self.over(lot) if joined != lot]
        return [high for high in above if not any([low != high and holds(high, low) for low in above])]

    def longest(self):
        """The greatest length of a chain."""
        lengths = {}
        # In lot order each joined row comes behind those within it, so their lengths are known.
        for joined in self._joined:
            lower = [lengths[low] for low in self.under(joined) if low != joined]
            lengths[joined] = 1 + max(lower, default=-1)
        return lengths[self.top]
