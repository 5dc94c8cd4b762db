"""Points 14 to 17: the written forms, and reading them strictly."""

import re

from greatestback.errors import BadLot, BadText
from greatestback.tables import Table
from greatestback.tabletext import format_lot, format_table, format_word, parse_lot, parse_table, parse_word
from support import ODD, Case, is_lot, lots_below, sample_tables, small_tables

SIGNS = ["x", ".", "\n", "/", ":", ",", "-", " ", "0", "1", "2", "3", "5", "6", "7", "9", "X", "b", "by", "~"]

# Every sign that a text may have.
ALL_SIGNS = [chr(code) for code in range(32, 127) if code != 37] + ["\n"]


def told_lines(table):
    return ["".join("x" if cell else "." for cell in row) for row in table.rows]


def least_wrong_line(text):
    """The words of point 17, written again: the least wrong line of a text of a table, or None."""
    lines = text.split("\n")
    found = re.fullmatch("([0-6]) by ([0-6])", lines[0])
    if found is None:
        return 1
    height, width = int(found[1]), int(found[2])
    wrong = [i + 2 for i in range(height)
             if i + 1 < len(lines) and re.fullmatch("[x.]{" + str(width) + "}", lines[i + 1]) is None]
    if len(lines) < height + 1:
        wrong.append(len(lines) + 1)
    if len(lines) > height + 1:
        wrong.append(height + 2)
    return min(wrong) if wrong else None


def is_word(word):
    """Point 15, written again."""
    found = re.fullmatch("([0-6]):([0-6]):([x./]*)", word)
    if found is None:
        return False
    height, width = int(found[1]), int(found[2])
    return found[3] in ("/".join(rows) for rows in [re.findall("[x.]{" + str(width) + "}", found[3])]
                        if len(rows) == height) if width > 0 else found[3] == "/" * max(height - 1, 0)


def spoilt(text):
    """The texts that differ from text in one place."""
    for at in range(len(text) + 1):
        yield text[:at] + text[at + 1:]
        for sign in SIGNS:
            yield text[:at] + sign + text[at:]
            yield text[:at] + sign + text[at + 1:]


def with_each_sign(text):
    """The texts with another sign in one place."""
    return [text[:at] + sign + text[at + 1:] for at in range(len(text)) for sign in ALL_SIGNS if sign != text[at]]


class TextsOfTables(Case):

    def test_written_form(self):
        for table in list(small_tables(6)) + list(sample_tables()):
            text = "\n".join([f"{table.height} by {table.width}"] + told_lines(table))
            self.answers(text, format_table, table)
            self.same(str(table), text)

    def test_edges(self):
        self.same([format_table(Table([[], []])), format_table(Table([], width=6)), format_table(Table([]))],
                  ["2 by 0\n\n", "0 by 6", "0 by 0"])
        self.same(format_table(Table([[True, False, True], [False, False, True]])), "2 by 3\nx.x\n..x")

    def test_every_text_reads_back(self):
        for table in list(small_tables(8)) + list(sample_tables()):
            self.same(parse_table(format_table(table)), table)
        self.answers(Table([[True], [False]]), parse_table, "2 by 1\nx\n.")
        self.same(parse_table("1 by 2\nx.").rows, [[True, False]])

    def test_spoilt_in_one_place(self):
        for table in list(small_tables(3)) + list(sample_tables(1)):
            for text in spoilt(format_table(table)):
                line = least_wrong_line(text)
                if line is None:
                    self.same(format_table(parse_table(text)), text)
                else:
                    self.refused(BadText, {"line": line}, parse_table, text)

    def test_each_other_sign_in_each_place(self):
        for text in with_each_sign("3 by 2\nx.\n.x\n.."):
            line = least_wrong_line(text)
            if line is None:
                self.same(format_table(parse_table(text)), text)
            else:
                self.refused(BadText, {"line": line}, parse_table, text)

    def test_spoilt_in_two_places_tells_the_least_line(self):
        self.refused_every_way(BadText, {"line": 2}, parse_table, "3 by 1\nxx\nx\n-")
        self.refused_every_way(BadText, {"line": 1}, parse_table, "3 by 7\nxx\nx\n-")
        self.refused_every_way(BadText, {"line": 3}, parse_table, "3 by 1\nx\n-")
        for table in sample_tables(1):
            text = format_table(table)
            for at in range(len(text)):
                changed = text[:at] + "o" + text[at + 1:] + "\nx"
                self.refused(BadText, {"line": least_wrong_line(changed)}, parse_table, changed)

    def test_first_line(self):
        for line in ["", "2", "2 by", "2 by ", " by 0", "by", "2by0", "2  by 0", "2 by  0", " 2 by 0", "2 by 0 ", "7 by 0",
                     "0 by 7", "-1 by 0", "02 by 0", "0 by 00", "2 BY 0", "2 x 0", "x by x", "2 by 0 by 0", "2\nby 0",
                     "10 by 1", "1 by 10", "2:0:/", "12 by 1", "1 by 23"]:
            for rest in ["", "\n", "\n\n", "\nx"]:
                self.refused_every_way(BadText, {"line": 1}, parse_table, line + rest)

    def test_too_few_and_too_many_lines(self):
        for height in range(7):
            for width in range(7):
                lines = [f"{height} by {width}"] + ["x" * width] * height
                for count in range(1, height + 1):
                    self.refused(BadText, {"line": count + 1}, parse_table, "\n".join(lines[:count]))
                for more in [[""], ["x" * width], ["", "?"]]:
                    self.refused(BadText, {"line": height + 2}, parse_table, "\n".join(lines + more))

    def test_long_texts(self):
        self.refused(BadText, {"line": 1}, parse_table, "x" * 4000)
        self.refused(BadText, {"line": 3}, parse_table, "1 by 1\nx" + "\n" * 3990)

    def test_examples(self):
        self.same(format_word(parse_table("2 by 3\nx.x\n..x")), "2:3:x.x/..x")
        self.refused(BadText, {"line": 3}, parse_table, "2 by 3\nx.x")


class WordsOfTables(Case):

    def test_written_form(self):
        for table in list(small_tables(6)) + list(sample_tables()):
            self.answers(f"{table.height}:{table.width}:" + "/".join(told_lines(table)), format_word, table)

    def test_edges(self):
        self.same([format_word(Table([], width=3)), format_word(Table([[]])), format_word(Table([[], []])),
                   format_word(Table([])), format_word(Table([[True, False, True], [False, False, True]]))],
                  ["0:3:", "1:0:", "2:0:/", "0:0:", "2:3:x.x/..x"])

    def test_every_word_reads_back(self):
        for table in list(small_tables(8)) + list(sample_tables()):
            self.same(parse_word(format_word(table)), table)
        self.answers(Table([[True], [False]]), parse_word, "2:1:x/.")

    def test_spoilt_in_one_place(self):
        for table in list(small_tables(3)) + list(sample_tables(1)):
            for word in spoilt(format_word(table)):
                if is_word(word):
                    self.same(format_word(parse_word(word)), word)
                else:
                    self.refused(BadText, {"line": 1}, parse_word, word)

    def test_each_other_sign_in_each_place(self):
        for word in with_each_sign("3:2:x./.x/.."):
            if is_word(word):
                self.same(format_word(parse_word(word)), word)
            else:
                self.refused(BadText, {"line": 1}, parse_word, word)

    def test_wrong_words(self):
        for word in ["", "::", ":", "0:0", "0:0::", "1:1:", "1:1:x/", "1:1:/x", "1:1:xx", "1:1:o", "2:1:x", "2:1:x\n.",
                     "0:1:x", "0:0:/", "0:3:...", "1:0:/", "2:0:", "2:0://", "7:0://////", "0:7:", "-1:0:", "01:1:x",
                     "1:01:x", "1 :1:x", "1:1: x", "1:1:x ", " 1:1:x", "1:1:x\n", "\n1:1:x", "1 by 1\nx", "1:1:X", "a:1:x",
                     "x" * 4000, "1:1:" + "x" * 3000, "12:1:x", "1:12:x"]:
            self.refused_every_way(BadText, {"line": 1}, parse_word, word)


class TextsOfLots(Case):

    def test_written_form_reads_back(self):
        for lot in lots_below(6):
            text = ",".join(map(str, lot)) if lot else "-"
            self.answers(text, format_lot, lot)
            self.answers(lot, parse_lot, text)
        self.same([format_lot((0, 2, 5)), format_lot((4,)), format_lot(())], ["0,2,5", "4", "-"])

    def test_no_other_text_reads(self):
        good = ["-"] + [",".join(map(str, lot)) for lot in lots_below(6) if lot]
        for right in good:
            for text in spoilt(right):
                if text not in good:
                    self.refused(BadText, {"line": 1}, parse_lot, text)

    def test_each_other_sign_in_each_place(self):
        good = [",".join(map(str, lot)) for lot in lots_below(6) if lot]
        for text in with_each_sign("0,3,5"):
            if text in good:
                self.same(format_lot(parse_lot(text)), text)
            else:
                self.refused(BadText, {"line": 1}, parse_lot, text)

    def test_wrong_texts(self):
        for text in ["", ",", "--", "-,0", "0,-", "0,", ",0", "0,,1", "0 ,1", "0, 1", " 0", "0 ", "00", "01", "6", "0,6", "7",
                     "0,0", "1,0", "0,2,1", "0,1,1", "-1", "0.1", "0\n", "\n0", "0\n1", "-\n", "x", "(0,)", "()", "+1",
                     "0,1,2,3,4,5,6", "10", "0,10", "0," * 2000]:
            self.refused_every_way(BadText, {"line": 1}, parse_lot, text)

    def test_bad_lots(self):
        for value in ODD:
            if is_lot(value, 6):
                self.same(parse_lot(format_lot(value)), value)
            else:
                self.refused_every_way(BadLot, {"lot": value}, format_lot, value)

    def test_example(self):
        self.refused(BadText, {"line": 1}, parse_lot, "2,0")
