"""Placings, and the placings that are likenesses from one order to another."""

from greatestback.checks import check_many, check_number, check_placing, is_placing_of
from greatestback.edits import place_columns, place_rows
from greatestback.lots import SIDE
from greatestback.ordertable import check_orders

LIKENESS_LIMIT = 5


def is_placing(value, many):
    """True if value is a placing of many."""
    check_number(many, SIDE + 1)
    return is_placing_of(value, many)


def _check_any_placing(placing):
    """Raise BadPlace(placing) if placing is not a placing of an integer from 0 to 6."""
    many = len(placing) if isinstance(placing, tuple) else 0
    check_placing(placing, min(many, SIDE))


def placing_then(first, second):
    """The placing that is first, then second."""
    _check_any_placing(first)
    check_placing(second, len(first))
    return tuple([second[number] for number in first])


def placing_back(placing):
    """The inverse of the placing."""
    _check_any_placing(placing)
    return tuple([placing.index(number) for number in range(len(placing))])


def is_likeness(order, other, value):
    """True if value is a likeness from order to other."""
    check_orders([order, other])
    many = order.height
    return other.height == many and is_placing_of(value, many) and _seen_through(other, value) == order


def _seen_through(order, placing):
    """The order whose cell (i, j) is the cell (placing[i], placing[j]) of order."""
    return place_columns(place_rows(order, placing), placing)


def first_likeness(order, other):
    """The first likeness from order to other in the order of placings, or None."""
    check_orders([order, other])
    check_many(order.height, LIKENESS_LIMIT)
    check_many(other.height, LIKENESS_LIMIT)
    found = _likenesses_between(order, other)
    return found[0] if found else None


def likenesses(order):
    """The list of all likenesses of the order, in the order of placings."""
    check_orders([order])
    check_many(order.height, LIKENESS_LIMIT)
    return _likenesses_between(order, order)


def _likenesses_between(order, other):
    """The list of all likenesses from order to other, in the order of placings."""
    if order.height != other.height:
        return []
    # Trying all placings whole takes long: here a beginning that is unlike order is not made longer.
    beginnings = [()]
    relations = _relations(other)
    for thing, wanted in enumerate(_relations(order)):
        beginnings = _made_longer(beginnings, relations, wanted[:thing])
    return beginnings


def _relations(order):
    """A list for each thing i, with the pair of the cells (i, j) and (j, i) for each thing j."""
    return [list(zip(row, column)) for row, column in zip(order.rows, order.columns)]


def _made_longer(beginnings, relations, wanted):
    """The beginnings with one number more, one that has the wanted relations to those before it."""
    return [before + (number,) for before in beginnings for number, told in enumerate(relations)
            if number not in before and [told[one] for one in before] == wanted]


def place_order(order, placing):
    """The order placed by placing: the order for which placing is a likeness from order."""
    check_placing(placing, order.height)
    check_orders([order])
    return _seen_through(order, placing_back(placing))
