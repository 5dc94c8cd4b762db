"""The written forms of tables and lots, and reading them back strictly."""

from greatestback.errors import BadText
from greatestback.lots import SIDE, check_lot, is_lot
from greatestback.tables import Table, row_line

DIGITS = "0123456"


def is_digit(word, below):
    """True if the word is one digit of an integer less than below, which is at most 7."""
    return len(word) == 1 and word in DIGITS[:below]


def _is_side(word):
    return is_digit(word, SIDE + 1)


def _is_row_line(line, width):
    return len(line) == width and all([sign in "x." for sign in line])


def _table_of_lines(lines, width):
    return Table([[sign == "x" for sign in line] for line in lines], width=width)


def format_table(table):
    """The text of the table."""
    return str(table)


def parse_table(text):
    """The table with that text."""
    lines = text.split("\n")
    height, width = _sides_of_line(lines[0])
    for number in range(height):
        if number + 1 >= len(lines) or not _is_row_line(lines[number + 1], width):
            raise BadText(number + 2)
    if len(lines) > height + 1:
        raise BadText(height + 2)
    return _table_of_lines(lines[1:], width)


def _sides_of_line(line):
    """The height and the width that the first line of a text tells."""
    words = line.split(" ")
    if len(words) != 3 or words[1] != "by" or not _is_side(words[0]) or not _is_side(words[2]):
        raise BadText(1)
    return int(words[0]), int(words[2])


def format_word(table):
    """The word of the table."""
    rows = "/".join([row_line(row) for row in table])
    return f"{table.height}:{table.width}:{rows}"


def parse_word(word):
    """The table with that word."""
    parts = word.split(":")
    if len(parts) != 3 or not _is_side(parts[0]) or not _is_side(parts[1]):
        raise BadText(1)
    height, width = int(parts[0]), int(parts[1])
    # No row and one empty row are written alike, so only the height tells them apart.
    lines = parts[2].split("/") if height > 0 or parts[2] != "" else []
    if len(lines) != height or not all([_is_row_line(line, width) for line in lines]):
        raise BadText(1)
    return _table_of_lines(lines, width)


def format_lot(lot):
    """The text of the lot."""
    check_lot(lot, SIDE)
    return ",".join([str(number) for number in lot]) if lot else "-"


def parse_lot(text):
    """The lot with that text."""
    if text == "-":
        return ()
    words = text.split(",")
    if not all([is_digit(word, SIDE) for word in words]):
        raise BadText(1)
    lot = tuple([int(word) for word in words])
    if not is_lot(lot):
        raise BadText(1)
    return lot
