"""Verdicts: what shows that some table leads back for a table, or that none does."""

from greatestback.errors import BadText
from greatestback.kin import is_kin_paper
from greatestback.kinorder import kin_order, order_paper
from greatestback.lots import SIDE
from greatestback.ordertable import is_order
from greatestback.ranks import is_rank_paper, rank_paper
from greatestback.tables import Table
from greatestback.tabletext import format_lot, format_word, is_digit, parse_lot, parse_word
from greatestback.wayback import is_way_paper, way_paper

# The lines of a "bad" verdict, and those ahead of the blocks of a "back" verdict.
HEAD_LINES = 4


def verdict_of(table):
    """The verdict of the program."""
    way = way_paper(table)
    if way[0] == "bad":
        return way
    return way + (kin_order(table), order_paper(table), rank_paper(table))


def is_verdict(table, paper):
    """True if paper is a verdict for the table."""
    if not isinstance(paper, tuple) or not is_way_paper(table, paper[:2]):
        return False
    if paper[0] == "bad":
        return len(paper) == 2
    return len(paper) == 5 and _are_order_papers(table, paper[2:])


def _are_order_papers(table, papers):
    """True if the three are an order, a kin paper for the table and it, and a rank paper with a count of its things."""
    order, kin_paper, ranks = papers
    if not isinstance(order, Table) or not is_order(order) or not is_kin_paper(table, order, kin_paper):
        return False
    return is_rank_paper(table, ranks) and ranks[0] == order.height


def verdict_lines(verdict):
    """The list of the lines of the verdict."""
    if verdict[0] == "bad":
        texts = [format_lot(lot) for lot in verdict[1]]
        return ["bad", f"row {texts[0]}", f"first {texts[1]}", f"second {texts[2]}"]
    _, way, order, papers, ranks = verdict
    words = " ".join([format_word(part) for part in papers])
    head = ["back", f"way {format_word(way)}", f"order {format_word(order)}", f"paper {words}"]
    return head + _rank_lines(ranks)


def _rank_lines(paper):
    """The lines of a rank paper: those of its blocks, and then those of its cells."""
    _, blocks, cells = paper
    lines = [f"block {format_lot(rows)} {format_lot(columns)}" for rows, columns in blocks]
    return lines + [f"cell {row} {column}" for row, column in cells]


def read_verdict(lines):
    """The verdict with these lines."""
    kind = lines[0] if lines else ""
    if kind == "bad":
        verdict = ("bad", _read_bad_paper(lines))
        end = HEAD_LINES
    elif kind == "back":
        verdict = ("back",) + _read_order_papers(lines)
        end = HEAD_LINES + 2 * verdict[-1][0]
    else:
        raise BadText(1)
    if len(lines) > end:
        raise BadText(end + 1)
    return verdict


def _read_line(lines, place, word, count, parse):
    """What stands behind the word in the line at that place: count parts, each read by parse."""
    # A line that is missing is refused like one without a word.
    words = lines[place].split(" ") if place < len(lines) else []
    if len(words) != count + 1 or words[0] != word:
        raise BadText(place + 1)
    try:
        return tuple([parse(part) for part in words[1:]])
    except BadText:
        raise BadText(place + 1) from None


def _read_bad_paper(lines):
    """The bad paper in the lines behind the first one."""
    words = ["row", "first", "second"]
    return tuple([_read_line(lines, place, word, 1, parse_lot)[0] for place, word in enumerate(words, start=1)])


def _read_order_papers(lines):
    """The way, the order, the kin paper and the rank paper in the lines behind the first one."""
    way = _read_line(lines, 1, "way", 1, parse_word)
    order = _read_line(lines, 2, "order", 1, parse_word)
    papers = _read_line(lines, 3, "paper", 4, parse_word)
    return way + order + (papers, _read_rank_paper(lines))


def _read_rank_paper(lines):
    """The rank paper in the lines behind the first four: blocks, and then just as many cells."""
    start = HEAD_LINES
    while start < len(lines) and lines[start].startswith("block "):
        start += 1
    blocks = [_read_line(lines, place, "block", 2, parse_lot) for place in range(HEAD_LINES, start)]
    cells = [_read_line(lines, start + number, "cell", 2, _parse_place) for number in range(len(blocks))]
    return (len(blocks), tuple(blocks), tuple(cells))


def _parse_place(word):
    """The row or column number of a cell."""
    if not is_digit(word, SIDE):
        raise BadText(1)
    return int(word)
