"""Points 66 and 67: verdicts, their lines, and reading the lines strictly."""

import itertools
import random
import re

from greatestback.errors import BadText
from greatestback.kin import kin_paper
from greatestback.likenesses import place_order
from greatestback.tables import Table
from greatestback.tabletext import format_word
from greatestback.verdict import is_verdict, read_verdict, verdict_lines, verdict_of
from greatestback.wayback import all_ways
from support import ODD, Case, lots_below, near, sample_tables, small_tables
from words import (
    bad_of, bad_paper_of, is_verdict_of, is_word_told, joined_of, lot_told, verdict_told, within, word_told,
)

ALL = list(small_tables(6)) + list(sample_tables(3, seed=15)) + [Table.same(6), ~Table.same(6)]
EMPTY = [Table([]), Table([], width=6), Table([[]] * 6), Table.filled(6, 6)]
EXAMPLE = Table.of_lots([(0,), (0, 1)], 2)
THREE = Table.of_lots([(0, 1), (0, 2), (1, 2)], 3)
FALLING = Table.of_lots([(1, 2), (2,), (0, 2), (0, 1, 2)], 3)

LOT_TEXTS = ["-"] + [",".join(map(str, lot)) for lot in lots_below(6) if lot]


def lines_told(verdict):
    """Point 67: the lines of a verdict."""
    if verdict[0] == "bad":
        return ["bad"] + [f"{word} {lot_told(lot)}" for word, lot in zip(["row", "first", "second"], verdict[1])]
    _, way, order, papers, (_, blocks, cells) = verdict
    lines = ["back", "way " + word_told(way), "order " + word_told(order), "paper " + " ".join(map(word_told, papers))]
    lines += [f"block {lot_told(rows)} {lot_told(columns)}" for rows, columns in blocks]
    return lines + [f"cell {i} {k}" for i, k in cells]


def is_line(line, word, parts):
    """True if the line is the word and such parts, one blank between each two."""
    words = line.split(" ")
    return words[0] == word and len(words) == len(parts) + 1 and all(is_part(one) for is_part, one in zip(parts, words[1:]))


def is_lot_text(text):
    return text in LOT_TEXTS


def is_place_text(text):
    return text in list("012345")


HEADS = {
    "bad": [("row", [is_lot_text]), ("first", [is_lot_text]), ("second", [is_lot_text])],
    "back": [("way", [is_word_told]), ("order", [is_word_told]), ("paper", [is_word_told] * 4)],
}


def kinds_of(lines):
    """One sign for each line: b for a block line, c for a cell line, and a blank for any other one."""
    kinds = ""
    for line in lines:
        block = is_line(line, "block", [is_lot_text] * 2)
        cell = is_line(line, "cell", [is_place_text] * 2)
        kinds += "b" if block else "c" if cell else " "
    return kinds


def can_go_on(lines):
    """True if some lines of a verdict begin with these lines."""
    if lines[0] not in HEADS:
        return False
    head = lines[1:4]
    if not all(is_line(line, *form) for line, form in zip(head, HEADS[lines[0]])):
        return False
    if lines[0] == "bad":
        return len(lines) <= 4
    kinds = kinds_of(lines[4:])
    return re.fullmatch("b*c*", kinds) is not None and kinds.count("c") <= kinds.count("b")


def is_whole(lines):
    kinds = kinds_of(lines[4:])
    return len(lines) >= 4 and kinds.count("c") == kinds.count("b")


def wrong_line(lines):
    """The number of the least wrong line, or None."""
    for many in range(1, len(lines) + 1):
        if not can_go_on(lines[:many]):
            return many
    return None if is_whole(lines) else len(lines) + 1


def spoilt_lines(line):
    """The line with one thing changed in it."""
    yield from [line + " ", " " + line, line.upper(), line + "\n", "\n" + line, line + " 0", line + " -", "", "x " + line]
    for at, sign in enumerate(line):
        yield line[:at] + line[at + 1:]
        yield line[:at] + sign + line[at:]
        for other in " ,.-x0567:/":
            yield line[:at] + other + line[at + 1:]


def spoilt(lines, source):
    """Lists of lines with one thing changed: within a line, or a line left out, doubled, exchanged or put in."""
    for at, line in enumerate(lines):
        yield lines[:at] + lines[at + 1:]
        yield lines[:at]
        yield lines[:at] + [line] + lines[at:]
        others = list(spoilt_lines(line))
        for other in others if len(others) < 60 else source.sample(others, 60):
            yield lines[:at] + [other] + lines[at + 1:]
        for other in ["", "bad", "back", "row -", "way 0:0:", "block 0 0", "block - -", "cell 0 0", "cell 6 0", "block 0"]:
            yield lines[:at] + [other] + lines[at:]
    for one, other in itertools.combinations(range(len(lines)), 2):
        changed = list(lines)
        changed[one], changed[other] = changed[other], changed[one]
        yield changed
    for other in ["", "cell 0 0", "block 0 0", "back", "second -", lines[-1]]:
        yield lines + [other]


class Verdicts(Case):

    def test_the_verdict_of_the_program(self):
        kinds = set()
        for table in ALL + EMPTY:
            told = verdict_told(table)
            kinds.add(told[0])
            self.same(verdict_of(table), told)
            self.assertIs(is_verdict_of(table, told), True)
            self.assertIs(is_verdict(table, told), True)
        self.assertEqual(kinds, {"bad", "back"})

    def test_by_position_and_by_name(self):
        self.answers(("bad", ((0, 1), (0, 2), (1, 2))), verdict_of, THREE)
        one = Table.same(1)
        self.answers(("back", one, one, (one,) * 4, (1, (((0,), (0,)),), ((0, 0),))), verdict_of, one)
        none = Table([])
        self.answers(("back", none, none, (none,) * 4, (0, (), ())), verdict_of, none)

    def test_verdicts_of_one_kind_only(self):
        for table in ALL[::3]:
            for other in ALL[::60] + [THREE, EXAMPLE]:
                paper = verdict_told(other)
                self.assertIs(is_verdict(table, paper), is_verdict_of(table, paper))

    def test_it_need_not_be_that_of_the_program(self):
        told = verdict_told(EXAMPLE)
        for way in all_ways(EXAMPLE):
            self.assertIs(is_verdict(EXAMPLE, ("back", way) + told[2:]), True)
        self.assertGreater(len(all_ways(EXAMPLE)), 1)
        # The order with its two things exchanged, and a kin paper for it.
        order = place_order(told[2], (1, 0))
        paper = tuple(Table.of_lots(lots, 2) for lots in [[(1,), (0,)], [(1,), (0,)]])
        y, z, w, v = told[3]
        exchanged = (y * paper[0], paper[0] * z, paper[0] * w, v * paper[0])
        self.answers(True, is_verdict, EXAMPLE, ("back", told[1], order, exchanged, told[4]))
        self.answers(False, is_verdict, EXAMPLE, ("back", told[1], order, told[3], told[4]))
        blocks, cells = told[4][1][::-1], told[4][2][::-1]
        self.answers(True, is_verdict, EXAMPLE, told[:4] + ((2, blocks, cells),))

    def test_a_table_that_is_kin_but_no_order(self):
        pairs = [(Table.same(2), ~Table.same(2)), (Table.same(1), Table.filled(1, 2, yes=True)),
                 (EXAMPLE, Table.of_lots([(1,), (0, 1)], 2)), (EXAMPLE, Table.of_lots([(0, 1), (0, 1, 2)], 3))]
        for table, other in pairs:
            told = verdict_told(table)
            paper = kin_paper(table, other)
            self.assertEqual([len(paper), other.height], [4, told[4][0]])
            self.answers(False, is_verdict, table, ("back", told[1], other, paper, told[4]))

    def test_any_right_bad_paper(self):
        for table in [one for one in ALL if bad_of(one)][:8] + [THREE]:
            joined = joined_of(table)
            for p, y, z in itertools.product(bad_of(table), joined, joined):
                right = within(p, set(y) | set(z)) and not within(p, y) and not within(p, z)
                self.assertIs(is_verdict(table, ("bad", (p, y, z))), right)
            for row in bad_of(table):
                self.assertIs(is_verdict(table, ("bad", bad_paper_of(table, row))), True)

    def test_a_part_changed_and_any_value(self):
        for table in [EXAMPLE, THREE, FALLING, Table([]), Table.same(1), Table.same(2), Table.filled(1, 3)]:
            told = verdict_told(table)
            values = [told] + near(told) + ODD + [verdict_told(one) for one in ALL[::40]]
            self.judges(is_verdict_of, is_verdict, [table], values)
            self.judges(is_verdict_of, is_verdict, [table], [told[:2], told[1:], ("bad",) + told[1:], ("back",) + told[1:]])

    def test_the_number_must_be_that_of_the_things(self):
        table = Table.filled(2, 2)
        papers = tuple(Table.filled(*size) for size in [(2, 0), (0, 2), (0, 2), (2, 0)])
        self.answers(True, is_verdict, table, ("back", table, Table([]), papers, (0, (), ())))
        self.answers(False, is_verdict, table, ("back", table, Table.same(1), papers, (0, (), ())))
        self.answers(False, is_verdict, table, ("back", table, Table([]), papers, (1, (), ())))
        full = Table.filled(2, 2, yes=True)
        blocks, cells = (((0, 1), (0, 1)),) * 2, ((0, 0), (1, 1))
        self.answers(True, is_verdict, full, verdict_told(full))
        self.answers(False, is_verdict, full, verdict_told(full)[:4] + ((2, blocks, cells),))


class Lines(Case):

    def test_of_each_verdict(self):
        for table in ALL + EMPTY:
            told = verdict_told(table)
            self.same(verdict_lines(told), lines_told(told))
            self.same(verdict_lines(verdict_of(table)), lines_told(told))

    def test_read_back(self):
        for table in ALL + EMPTY:
            told = verdict_told(table)
            self.same(read_verdict(lines_told(told)), told)
            self.same(read_verdict(tuple(lines_told(told))), told)
            self.assertIsNone(wrong_line(lines_told(told)))

    def test_examples(self):
        one = ["back", "way 1:1:x", "order 1:1:x", "paper 1:1:x 1:1:x 1:1:x 1:1:x", "block 0 0", "cell 0 0"]
        self.answers(one, verdict_lines, verdict_of(Table.filled(1, 1, yes=True)))
        self.answers(["bad", "row 0,1", "first 0,2", "second 1,2"], verdict_lines, verdict_of(THREE))
        self.answers(verdict_of(Table.filled(1, 1, yes=True)), read_verdict, one)

    def test_without_blocks(self):
        for table in EMPTY + [Table.filled(2, 3)]:
            self.assertEqual(len(verdict_lines(verdict_of(table))), 4)
        lines = ["back", "way 6:0://///", "order 0:0:", "paper 6:0:///// 0:6: 0:0: 0:0:"]
        self.answers(lines, verdict_lines, verdict_of(Table([], width=6)))
        self.answers(verdict_of(Table([], width=6)), read_verdict, lines)


class Reading(Case):

    def check(self, lines):
        """The lines are refused with the least wrong one, or else they are those of what is read."""
        number = wrong_line(lines)
        if number is None:
            self.same(verdict_lines(read_verdict(lines)), lines)
        else:
            self.refused(BadText, {"line": number}, read_verdict, lines)
        return number

    def test_lines_spoilt_in_one_place(self):
        source = random.Random(8)
        tables = [EXAMPLE, THREE, FALLING, Table([]), Table.same(1), Table.filled(2, 0), Table.same(3)]
        for table in tables + [one for one in ALL[::150]]:
            numbers = {self.check(lines) for lines in spoilt(lines_told(verdict_told(table)), source)}
            self.assertGreater(len(numbers), 4)

    def test_any_tables_and_any_lots(self):
        source = random.Random(9)
        for _ in range(100):
            tables = source.sample(ALL, 6)
            lines = ["back", "way " + word_told(tables[0]), "order " + word_told(tables[1])]
            lines.append("paper " + " ".join(map(word_told, tables[2:])))
            many = source.randrange(5)
            lots = [[source.choice(LOT_TEXTS), source.choice(LOT_TEXTS)] for _ in range(many)]
            cells = [[str(source.randrange(6)), str(source.randrange(6))] for _ in range(many)]
            lines += ["block " + " ".join(one) for one in lots] + ["cell " + " ".join(one) for one in cells]
            self.assertIsNone(self.check(lines))
            bad = ["bad"] + [f"{word} {source.choice(LOT_TEXTS)}" for word in ["row", "first", "second"]]
            self.assertIsNone(self.check(bad))

    def test_what_is_read_may_be_right_for_no_table(self):
        self.answers(("bad", ((), (5,), ())), read_verdict, ["bad", "row -", "first 5", "second -"])
        lines = ["back", "way 0:3:", "order 1:2:.x", "paper 0:0: 1:0: 2:0:/ 1:1:.", "block - 0,5", "cell 5 0"]
        told = ("back", Table([], width=3), Table([[False, True]]),
                (Table([]), Table([[]]), Table([[], []]), Table([[False]])), (1, (((), (0, 5)),), ((5, 0),)))
        self.answers(told, read_verdict, lines)
        self.answers(lines, verdict_lines, told)

    def test_blocks_and_cells(self):
        head = lines_told(verdict_told(EXAMPLE))[:4]
        block, cell = "block 0 0", "cell 0 0"
        cases = [([], None), ([block], 6), ([cell], 5), ([block, cell], None), ([block, cell, cell], 7),
                 ([block, cell, block], 7), ([block, cell, block, cell], 7), ([block, block, cell], 8),
                 ([block, block, cell, block, cell], 8), ([block, block, cell, cell], None), ([cell, block], 5),
                 ([block, block], 7), ([block, "", cell], 6), ([""], 5), (["block"], 5), (["cell"], 5),
                 ([block, "cell 0"], 6), ([block, "cell 0 6"], 6), ([block, "cell 00 0"], 6), (["block 6 0"], 5),
                 (["block 0  0"], 5), (["block 0 0 0"], 5), ([block, "block 0 1,0", cell, cell], 6), (["blocks 0 0"], 5),
                 ([block, "blocks 0 0"], 6), ([block, "back"], 6), ([block, "cells 0 0"], 6), (["Block 0 0"], 5)]
        for told, number in cases:
            self.assertEqual(wrong_line(head + told), number, told)
            self.check(head + told)

    def test_80_lines(self):
        head = lines_told(verdict_told(EXAMPLE))[:4]
        lines = head + ["block 0,1 -"] * 38 + ["cell 3 4"] * 38
        self.same(len(lines), 80)
        told = (38, (((0, 1), ()),) * 38, ((3, 4),) * 38)
        self.answers(verdict_told(EXAMPLE)[:4] + (told,), read_verdict, lines)
        self.refused_every_way(BadText, {"line": 80}, read_verdict, lines[:79])
        self.refused_every_way(BadText, {"line": 80}, read_verdict, lines[:79] + ["cell 3 6"])
        self.refused_every_way(BadText, {"line": 81}, read_verdict, head + ["block 0 0"] * 76)
        self.refused_every_way(BadText, {"line": 5}, read_verdict, ["bad", "row -", "first -", "second -"] + ["cell 0 0"] * 76)

    def test_no_lines_and_missing_lines(self):
        self.refused_every_way(BadText, {"line": 1}, read_verdict, [])
        self.refused_every_way(BadText, {"line": 1}, read_verdict, ())
        for lines in [lines_told(verdict_told(THREE)), lines_told(verdict_told(EXAMPLE))]:
            for many in range(len(lines)):
                # The first four lines of a "back" verdict are one without blocks.
                if lines[:many] != lines_told(verdict_told(EXAMPLE))[:4]:
                    self.refused_every_way(BadText, {"line": many + 1}, read_verdict, lines[:many])

    def test_the_least_wrong_line(self):
        lines = lines_told(verdict_told(EXAMPLE))
        for first, second in itertools.combinations(range(len(lines)), 2):
            changed = list(lines)
            changed[first] = changed[second] = "x"
            self.refused(BadText, {"line": first + 1}, read_verdict, changed)

    def test_one_word_of_the_paper(self):
        lines = lines_told(verdict_told(EXAMPLE))
        words = lines[3].split(" ")
        for at in range(1, 5):
            for wrong in ["", "-", "2:2:x./x", "7:1:", "2:2:x./xx/", "0:0", "1:1:X", "0:0:/"]:
                changed = lines[:3] + [" ".join(words[:at] + [wrong] + words[at + 1:])] + lines[4:]
                self.refused(BadText, {"line": 4}, read_verdict, changed)
        for wrong in [words[:4], words + ["0:0:"], words[1:]]:
            self.refused(BadText, {"line": 4}, read_verdict, lines[:3] + [" ".join(wrong)] + lines[4:])

    def test_words_are_those_of_the_tables(self):
        for table in ALL[::7]:
            self.same(format_word(table), word_told(table))
            self.assertTrue(is_word_told(word_told(table)))
