"""Lots: tuples of integers in strictly ascending order."""

from greatestback.checks import check_number, is_number
from greatestback.errors import BadLot

SIDE = 6


def is_lot(value, below=SIDE):
    """True if value is a lot below the integer below."""
    check_number(below, SIDE + 1)
    return isinstance(value, tuple) and _is_ascending(value, below)


def _is_ascending(values, below):
    least = 0
    for value in values:
        if not is_number(value, below) or value < least:
            return False
        least = value + 1
    return True


def check_lot(lot, below):
    """Raise BadLot(lot) if lot is not a lot below the integer below."""
    if not is_lot(lot, below):
        raise BadLot(lot)


def _check_lots(lots):
    for lot in lots:
        check_lot(lot, SIDE)


def lot_of(numbers, *, below=SIDE):
    """The lot that has exactly the integers in numbers."""
    check_number(below, SIDE + 1)
    if not isinstance(numbers, (list, tuple)):
        raise BadLot(numbers)
    if not all([is_number(number, below) for number in numbers]):
        raise BadLot(numbers)
    return tuple(sorted(set(numbers)))


def join_all(lots):
    """The join of all lots in a list or tuple; the join of none is the empty lot."""
    return lot_of([number for lot in lots for number in lot])


def join_lots(first, second):
    """The join of the two lots."""
    _check_lots([first, second])
    return join_all([first, second])


def meet_lots(first, second):
    """The common part of the two lots."""
    _check_lots([first, second])
    return tuple([number for number in first if number in second])


def lot_without(first, second):
    """The lot of the numbers of first that are not in second."""
    _check_lots([first, second])
    return tuple([number for number in first if number not in second])


def holds(first, second):
    """True if first holds second."""
    _check_lots([first, second])
    return _has_all(first, second)


def _has_all(first, second):
    # Nothing is checked here: of lots that the program worked out itself, that takes longer than the answer.
    return all([number in first for number in second])


def numbers_within(lots, lot):
    """The lot of the numbers of those lots, in a list, that are within lot."""
    return tuple([number for number, other in enumerate(lots) if _has_all(lot, other)])


def numbers_holding(lots, lot):
    """The lot of the numbers of those lots, in a list, that hold lot."""
    return tuple([number for number, other in enumerate(lots) if _has_all(other, lot)])


def sorted_lots(lots):
    """A list of the lots in lot order, without repeats."""
    _check_lots(lots)
    # Sorting keeps the sequence of lots with equal counts, so they stay in the order of tuples.
    return sorted(sorted(set(lots)), key=len)


def all_lots(below):
    """The list of all lots below the integer below, in lot order."""
    check_number(below, SIDE + 1)
    lots = [()]
    for number in range(below):
        lots = lots + [lot + (number,) for lot in lots]
    return sorted_lots(lots)
