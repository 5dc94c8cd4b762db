"""Equations for a table X: A X = B, X A = B and A X B = C."""

from greatestback.behind import first_outside, turned
from greatestback.checks import is_number_pair
from greatestback.errors import UnlikeSizes
from greatestback.greatest import greatest_under
from greatestback.wayback import check_way_back


def _check_heights(first, target):
    if first.height != target.height:
        raise UnlikeSizes(first.size, target.size)


def _check_widths(second, target):
    if second.width != target.width:
        raise UnlikeSizes(second.size, target.size)


def greatest_right(first, target):
    """The greatest X with A X inside B, for A = first and B = target."""
    _check_heights(first, target)
    return ~(turned(first) * ~target)


def greatest_left(second, target):
    """The greatest X with X A inside B, for A = second and B = target."""
    _check_widths(second, target)
    return ~(~target * turned(second))


def greatest_both(first, second, target):
    """The greatest X with A X B inside C, for A = first, B = second and C = target."""
    _check_heights(first, target)
    _check_widths(second, target)
    return ~(turned(first) * ~target * turned(second))


def solve_right(first, target):
    """The pair of the greatest X for A X = B and the first cell that bars the equation, or None."""
    way = greatest_right(first, target)
    return (way, first_outside(target, first * way))


def solve_left(second, target):
    """The pair of the greatest X for X A = B and the first cell that bars the equation, or None."""
    way = greatest_left(second, target)
    return (way, first_outside(target, way * second))


def solve_both(first, second, target):
    """The pair of the greatest X for A X B = C and the first cell that bars the equation, or None."""
    way = greatest_both(first, second, target)
    return (way, first_outside(target, first * way * second))


def is_bar_right(first, target, paper):
    """True if paper is a cell of target that bars A X = B."""
    return _is_outside(target, first * greatest_right(first, target), paper)


def is_bar_left(second, target, paper):
    """True if paper is a cell of target that bars X A = B."""
    return _is_outside(target, greatest_left(second, target) * second, paper)


def is_bar_both(first, second, target, paper):
    """True if paper is a cell of target that bars A X B = C."""
    return _is_outside(target, first * greatest_both(first, second, target) * second, paper)


def _is_outside(target, reached, value):
    """True if value is a cell that is yes in target and no in reached, a table of the same size."""
    return is_number_pair(value, target.size) and target[value] and not reached[value]


def solve_by_way(first, target):
    """The table G B if it is a solution of A X = B, where G is the greatest table under A, otherwise None."""
    _check_heights(first, target)
    check_way_back(first)
    way = greatest_under(first) * target
    return way if first * way == target else None
