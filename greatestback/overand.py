"""Whether both and either of the joined rows spread over one another."""

from itertools import product

from greatestback.checks import check_many
from greatestback.lattice import Lattice
from greatestback.primes import bad_rows

SPREAD_LIMIT = 16


def spread_fault(table):
    """The first triple for which both does not spread over either, or None."""
    lattice = _small_lattice(table)
    return _first_fault(list(lattice), lattice.both, lattice.either)


def turned_fault(table):
    """The first triple for which either does not spread over both, or None."""
    lattice = _small_lattice(table)
    return _first_fault(list(lattice), lattice.either, lattice.both)


def _small_lattice(table):
    """The lattice of the table. Raises TooMany if its joined rows are too many to try all triples."""
    lattice = Lattice(table)
    check_many(lattice.how_many, SPREAD_LIMIT)
    return lattice


def _first_fault(rows, outer, inner):
    outer = _worked_out(rows, outer)
    inner = _worked_out(rows, inner)
    for triple in product(rows, rows, rows):
        if _is_fault(triple, outer, inner):
            return triple
    return None


def _worked_out(rows, function):
    """A function with the answers of function for each two rows, so that thousands of triples are tried at once."""
    answers = {(one, other): function(one, other) for one in rows for other in rows}
    return lambda one, other: answers[one, other]


def _is_fault(triple, outer, inner):
    """True if outer does not spread over inner for the triple of joined rows."""
    x, y, z = triple
    return outer(x, inner(y, z)) != inner(outer(x, y), outer(x, z))


def is_spread_fault(table, paper):
    """True if paper is a spread fault of the table."""
    lattice = Lattice(table)
    return _is_triple(lattice, paper) and _is_fault(paper, lattice.both, lattice.either)


def is_turned_fault(table, paper):
    """True if paper is a turned fault of the table."""
    lattice = Lattice(table)
    return _is_triple(lattice, paper) and _is_fault(paper, lattice.either, lattice.both)


def _is_triple(lattice, value):
    """True if value is a triple of joined rows."""
    return isinstance(value, tuple) and len(value) == 3 and all([row in lattice for row in value])


def spreads(table):
    """True if the table has no spread fault."""
    # There is a spread fault if and only if there is a bad row, and bad rows are quickly found.
    return bad_rows(table) == []
