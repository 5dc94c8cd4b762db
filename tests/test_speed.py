"""No call takes long, the largest tables and the most joined rows included."""

import time
import unittest

from greatestback.behind import power, then_all
from greatestback.edits import apply_edits, difference
from greatestback.joins import joined_columns, joined_rows
from greatestback.lattice import Lattice
from greatestback.tables import Table

# Far more than any call needs, and far less than one that tries all choices of 64 joined rows.
SECONDS = 2

LARGEST = [Table.same(6), ~Table.same(6), Table.filled(6, 6, yes=True)]


class Speed(unittest.TestCase):

    def at_once(self, function, *args):
        before = time.process_time()
        result = function(*args)
        self.assertLess(time.process_time() - before, SECONDS, function)
        return result

    def test_powers_and_products(self):
        for table in LARGEST:
            self.at_once(power, table, 64)
            self.at_once(then_all, [table] * 8)

    def test_edits(self):
        for table in LARGEST:
            self.at_once(difference, table, ~table)
            self.at_once(apply_edits, table, [("swap columns", 0, 5), ("drop column", 5), ("add column", 0, (0, 3))] * 20)

    def test_joined_rows_and_lattices(self):
        for table in LARGEST:
            self.at_once(joined_rows, table)
            self.at_once(joined_columns, table)
            lattice = self.at_once(Lattice, table)
            self.at_once(lattice.longest)
            self.at_once(lattice.both_all, (list(lattice) * 64)[:70])
            self.at_once(lattice.either_all, (list(lattice) * 64)[:70])
            for function in [lattice.under, lattice.over, lattice.next_over, lattice.place_of]:
                self.at_once(function, lattice.bottom)
                self.at_once(function, lattice.top)
