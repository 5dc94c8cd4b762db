"""Kin tables: matches of their unmade rows, and kin papers."""

from itertools import permutations

from greatestback.behind import through, turned
from greatestback.checks import check_many, is_placing_of
from greatestback.errors import BadPaper, BadPlace
from greatestback.joins import check_joined, greatest_without, joined_rows
from greatestback.likenesses import placing_back
from greatestback.lots import join_all, numbers_within
from greatestback.solve import greatest_left
from greatestback.tables import Table
from greatestback.unmade import maker_numbers, unmade_columns, unmade_rows

MATCH_LIMIT = 5


def _maker_lots(table):
    """The lots of the numbers of the makers, one for each joined row."""
    unmade = unmade_rows(table)
    return [numbers_within(unmade, row) for row in joined_rows(table)]


def _moved(placing, lot):
    """The lot of the numbers to which the placing sends the numbers of the lot."""
    return tuple(sorted([placing[number] for number in lot]))


def _carries(placing, lots, targets):
    """True if the placing sends each of the lots to one of the targets."""
    # Most placings fail at one of the first lots: the others are not looked at then.
    for lot in lots:
        if _moved(placing, lot) not in targets:
            return False
    return True


def is_match(first, second, value):
    """True if value is a match from first to second."""
    many = len(unmade_rows(first))
    lots = _maker_lots(first)
    targets = _maker_lots(second)
    if len(unmade_rows(second)) != many or len(targets) != len(lots):
        return False
    return is_placing_of(value, many) and _carries(value, lots, targets)


def first_match(first, second):
    """The first match from first to second in the order of placings, or None."""
    many = len(unmade_rows(first))
    other = len(unmade_rows(second))
    check_many(many, MATCH_LIMIT)
    check_many(other, MATCH_LIMIT)
    lots = _maker_lots(first)
    targets = _maker_lots(second)
    if other != many or len(targets) != len(lots):
        return None
    for placing in permutations(range(many)):
        if _carries(placing, lots, targets):
            return placing
    return None


def _check_match(first, second, placing):
    if not is_match(first, second, placing):
        raise BadPlace(placing)


def carry(first, second, placing, lot):
    """The joined row of second to which the joined row lot of first is carried."""
    _check_match(first, second, placing)
    check_joined(first, lot)
    return _carried(first, second, placing, lot)


def _carried(first, second, placing, lot):
    rows = unmade_rows(second)
    return join_all([rows[number] for number in _moved(placing, maker_numbers(first, lot))])


def paper_of_match(first, second, placing):
    """The kin paper of the match placing from first to second."""
    _check_match(first, second, placing)
    return _paper_of(first, second, placing)


def _paper_of(first, second, placing):
    there = _columns_carried(first, second, placing)
    back = _columns_carried(second, first, placing_back(placing))
    reached = first * back
    return (back, there, greatest_left(reached, second), greatest_left(second, reached))


def _columns_carried(first, second, placing):
    """The table that is yes in (j, k) if j is not in what the greatest joined row of first without k is carried to."""
    without = [greatest_without(first, column) for column in range(first.width)]
    carried = [_carried(first, second, placing, row) for row in without]
    rows = [[column not in row for row in carried] for column in range(second.width)]
    return Table(rows, width=first.width)


def kin_paper(first, second):
    """The kin paper of the first match, or None if there is no match."""
    placing = first_match(first, second)
    return None if placing is None else _paper_of(first, second, placing)


def are_kin(first, second):
    """True if the two tables are kin."""
    return first_match(first, second) is not None


def is_kin_paper(first, second, paper):
    """True if paper is a right kin paper for first and second."""
    if not isinstance(paper, tuple) or not all([isinstance(part, Table) for part in paper]):
        return False
    if [part.size for part in paper] != _paper_sizes(first, second):
        return False
    to_second, to_first, left, right = paper
    reached = first * to_second
    return reached * to_first == first and left * reached == second and right * second == reached


def _paper_sizes(first, second):
    """The sizes of the four tables of a kin paper."""
    return [
        (first.width, second.width), (second.width, first.width),
        (second.height, first.height), (first.height, second.height),
    ]


def _check_paper(first, second, paper):
    if not is_kin_paper(first, second, paper):
        raise BadPaper(paper)


def match_of_paper(first, second, paper):
    """The match of the kin paper: where it sends the unmade rows of first."""
    _check_paper(first, second, paper)
    rows = unmade_rows(second)
    return tuple([rows.index(through(row, paper[0])) for row in unmade_rows(first)])


def self_paper(table):
    """The kin paper of same tables for table and table."""
    wide = Table.same(table.width)
    high = Table.same(table.height)
    return (wide, wide, high, high)


def back_paper(first, second, paper):
    """The kin paper for second and first."""
    _check_paper(first, second, paper)
    to_second, to_first, left, right = paper
    return (to_first, to_second, right, left)


def across_paper(first, second, paper):
    """The kin paper for the two tables turned over."""
    _check_paper(first, second, paper)
    to_second, to_first, left, right = paper
    return (turned(left), turned(right), turned(to_second), turned(to_first))


def chain_papers(first, middle, last, paper, next_paper):
    """The kin paper for first and last, from one for first and middle and one for middle and last."""
    _check_paper(first, middle, paper)
    _check_paper(middle, last, next_paper)
    to_second, to_first, left, right = paper
    to_third, from_third, next_left, next_right = next_paper
    return (to_second * to_third, from_third * to_first, next_left * left, right * next_right)


def kin_difference(first, second):
    """What tells the two tables apart as no kin, or None if they are kin."""
    counts = [
        ("unmade rows", len(unmade_rows(first)), len(unmade_rows(second))),
        ("unmade columns", len(unmade_columns(first)), len(unmade_columns(second))),
        ("joined rows", len(joined_rows(first)), len(joined_rows(second))),
    ]
    unlike = [told for told in counts if told[1] != told[2]]
    if unlike:
        return unlike[0]
    return None if are_kin(first, second) else ("match",)
