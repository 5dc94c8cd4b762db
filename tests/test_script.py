"""Points 71 and 72: scripts, their commands and answers, and lines that are refused."""

import itertools
import random

from greatestback.engine import Engine
from greatestback.errors import BadText, TooMany
from greatestback.script import SCRIPT_LIMIT, parse_command, run_line, run_script
from greatestback.tables import Table
from support import Case, Walk, refusal, sample_tables
from words import (
    bad_of, first_bad_paper_of, greatest_under_of, inside_of, is_match_of, is_name_told, is_word_told, kin_order_of, lot_told,
    maker_lots_of, table_of, then_of, unmade_columns_of, unmade_of, within, word_told, yes_cells,
)

TABLES = list(sample_tables(1, seed=17)) + [Table.of_lots([(0, 1), (0, 2), (1, 2)], 3)]
# Tables that fit one another, so that more lines are answered.
ALIKE = [Table.of_lots(lots, 3) for lots in itertools.product([(), (0,), (0, 1), (1, 2), (0, 1, 2)], repeat=3)]
NAMES = ["a", "b", "cc", "names", "abcdefgh"]

# The words behind each command, as point 71 writes them.
FORMS = {
    "put": "NAME WORD", "drop": "NAME", "set": "NAME I K yes", "turn": "NAME", "then": "NEW LEFT RIGHT", "undo": "",
    "redo": "", "show": "NAME", "names": "", "way": "NAME", "order": "NAME", "rank": "NAME", "kin": "LEFT RIGHT",
    "solve": "LEFT RIGHT",
}
RIGHT = {
    "put": "put a 2:2:x./xx", "drop": "drop a", "set": "set a 0 1 yes", "turn": "turn a", "then": "then b a a",
    "undo": "undo", "redo": "redo", "show": "show a", "names": "names", "way": "way a", "order": "order a",
    "rank": "rank a", "kin": "kin a a", "solve": "solve a a",
}


def is_command(line):
    """True if the line is a command with words of the right count and form."""
    words = line.split(" ")
    if words[0] not in FORMS or "" in words:
        return False
    forms = FORMS[words[0]].split()
    return len(forms) == len(words) - 1 and all(has_form(word, form) for word, form in zip(words[1:], forms))


def has_form(word, form):
    if form == "WORD":
        return is_word_told(word)
    if form in ("I", "K"):
        return word in list("0123456")
    return form != "yes" or word in ["yes", "no"]


def table_told(word):
    height, width, rows = word.split(":")
    lines = rows.split("/")
    return table_of(int(height), int(width), lambda i, k: lines[i][k] == "x")


def put(walk, name, word):
    if name not in walk.held() and len(walk.held()) == 8:
        return "refused TooMany"
    walk.become({**walk.held(), name: table_told(word)})
    return "done"


def drop(walk, name):
    walk.become({one: table for one, table in walk.held().items() if one != name})
    return "done"


def set_cell(walk, name, row, column, answer):
    table, i, k = walk.held()[name], int(row), int(column)
    if i >= table.height or k >= table.width:
        return "refused NoFit"
    told = table_of(table.height, table.width, lambda a, b: answer == "yes" if (a, b) == (i, k) else table.rows[a][b])
    walk.become({**walk.held(), name: told})
    return "done"


def turn(walk, name):
    table = walk.held()[name]
    walk.become({**walk.held(), name: table_of(table.width, table.height, lambda k, i: table.rows[i][k])})
    return "done"


def then(walk, name, left, right):
    one, other = walk.held()[left], walk.held()[right]
    if one.width != other.height:
        return "refused UnlikeSizes"
    return put(walk, name, word_told(then_of(one, other)))


def way(walk, name):
    table = walk.held()[name]
    if bad_of(table):
        return "bad " + " ".join(map(lot_told, first_bad_paper_of(table)))
    return "back " + word_told(greatest_under_of(table))


def order(walk, name):
    table = walk.held()[name]
    return "refused NoWayBack" if bad_of(table) else word_told(kin_order_of(table))


def rank(walk, name):
    table = walk.held()[name]
    return f"ranks {len(unmade_of(table))} {len(unmade_columns_of(table))}"


def kin(walk, left, right):
    one, other = walk.held()[left], walk.held()[right]
    many = len(unmade_of(one))
    if max(many, len(unmade_of(other))) > 5:
        return "refused TooMany"
    if many != len(unmade_of(other)) or len(maker_lots_of(one)) != len(maker_lots_of(other)):
        return "unlike"
    found = any(is_match_of(one, other, placing) for placing in itertools.permutations(range(many)))
    return "kin" if found else "unlike"


def solve(walk, left, right):
    one, other = walk.held()[left], walk.held()[right]
    if one.height != other.height:
        return "refused UnlikeSizes"
    columns = [{i for i, k in yes_cells(one) if k == column} for column in range(one.width)]
    targets = [{i for i, k in yes_cells(other) if k == column} for column in range(other.width)]
    greatest = table_of(one.width, other.width, lambda k, j: within(columns[k], targets[j]))
    reached = then_of(one, greatest)
    assert inside_of(reached, other)
    barred = [cell for cell in yes_cells(other) if cell not in yes_cells(reached)]
    return f"barred {barred[0][0]} {barred[0][1]}" if barred else "solved " + word_told(greatest)


STEPS = {"put": put, "drop": drop, "set": set_cell, "turn": turn, "then": then, "way": way, "order": order, "rank": rank,
         "kin": kin, "solve": solve, "show": lambda walk, name: word_told(walk.held()[name]),
         "undo": lambda walk: "done" if walk.step(-1) else "nothing",
         "redo": lambda walk: "done" if walk.step(1) else "nothing",
         "names": lambda walk: " ".join(sorted(walk.held())) or "nothing"}


def answer_of(walk, line):
    """What point 71 and point 72 say of a line, walked in every state."""
    if line == "":
        return "nothing"
    if not is_command(line):
        return "refused BadText"
    kind, *rest = line.split(" ")
    named = [(word, form) for word, form in zip(rest, FORMS[kind].split()) if form in ("NAME", "LEFT", "RIGHT", "NEW")]
    if not all(is_name_told(word) for word, _ in named):
        return "refused BadName"
    needed = [word for word, form in named if form != "NEW" and kind != "put"]
    if not all(word in walk.held() for word in needed):
        return "refused NoName"
    return STEPS[kind](walk, *rest)


def random_line(source):
    kind = source.choice(list(FORMS) + ["put"] * 4 + ["then", "set", "undo"])
    words = {"WORD": lambda: word_told(source.choice(source.choice([TABLES, ALIKE, ALIKE]))), "I": lambda: str(source.randrange(4)),
             "K": lambda: str(source.randrange(4)), "yes": lambda: source.choice(["yes", "no"])}
    line = [kind] + [words.get(form, lambda: source.choice(NAMES))() for form in FORMS[kind].split()]
    if source.randrange(12) == 0:
        return source.choice(["", " ".join(line) + " ", " ".join(line + ["a"]), " ".join(line[:-1]), " " + " ".join(line),
                              "  ".join(line + ["a"]), " ".join(line).upper(), "put A 0:0:", "show z", "set a 6 6 no"])
    return " ".join(line)


class Scripts(Case):

    def test_random_scripts(self):
        for seed in range(60):
            source = random.Random(seed)
            lines = [random_line(source) for _ in range(60)]
            walk, engine = Walk(), Engine()
            told = [answer_of(walk, line) for line in lines]
            self.same([run_line(engine, line) for line in lines], told)
            self.same(run_script("\n".join(lines)), told)
            self.same([engine.names, engine.done], [sorted(walk.held()), walk.at])

    def test_the_random_scripts_meet_every_answer(self):
        starts = set()
        for seed in range(60):
            source, walk = random.Random(seed), Walk()
            for _ in range(60):
                answer = answer_of(walk, random_line(source))
                starts.add(answer if answer.startswith("refused") else answer.split(" ")[0])
        wanted = ["done", "nothing", "back", "bad", "ranks", "kin", "unlike", "solved", "barred"]
        wanted += ["refused " + told for told in ["BadText", "BadName", "NoName", "NoFit", "UnlikeSizes", "TooMany",
                                                  "NoWayBack"]]
        self.assertEqual([told for told in wanted if told not in starts], [])

    def test_example(self):
        text = "put a 2:2:x./xx\nway a\nrank a\nsolve a b\nkin a a\nput a 2:2:x."
        told = ["done", "back 2:2:x./xx", "ranks 2 2", "refused NoName", "kin", "refused BadText"]
        self.answers(told, run_script, text)

    def test_each_command(self):
        lines = [
            ("names", "nothing"), ("undo", "nothing"), ("redo", "nothing"), ("put a 2:3:x.x/..x", "done"),
            ("show a", "2:3:x.x/..x"), ("set a 1 0 yes", "done"), ("show a", "2:3:x.x/x.x"), ("undo", "done"),
            ("show a", "2:3:x.x/..x"), ("redo", "done"), ("redo", "nothing"), ("set a 1 0 no", "done"), ("turn a", "done"),
            ("show a", "3:2:x./../xx"), ("put b 2:1:x/x", "done"), ("then c a b", "done"), ("show c", "3:1:x/./x"),
            ("names", "a b c"), ("drop b", "done"), ("names", "a c"), ("undo", "done"), ("names", "a b c"),
            ("rank a", "ranks 2 2"), ("order a", "2:2:x./xx"), ("way a", "back 2:3:xx./xxx"), ("kin a a", "kin"),
            ("kin a b", "unlike"), ("solve a c", "solved 2:1:x/x"), ("solve c a", "barred 2 1"),
            ("put t 3:3:xx./x.x/.xx", "done"), ("way t", "bad 0,1 0,2 1,2"), ("order t", "refused NoWayBack"), ("", "nothing"),
        ]
        engine, walk = Engine(), Walk()
        for line, expected in lines:
            self.same([run_line(engine, line), answer_of(walk, line)], [expected, expected])
        self.same(run_script("\n".join(line for line, _ in lines)), [expected for _, expected in lines])

    def test_the_empty_text_and_a_newline_at_the_end(self):
        self.answers(["nothing"], run_script, "")
        self.answers(["nothing", "nothing"], run_script, "\n")
        self.answers(["done", "a", "nothing"], run_script, "put a 0:0:\nnames\n")

    def test_60_lines_and_61(self):
        self.same(SCRIPT_LIMIT, 60)
        self.answers(["nothing"] * 60, run_script, "\n" * 59)
        self.answers(["done"] * 60, run_script, "\n".join(["put a 1:1:x"] * 60))
        self.answers(["refused BadText"] * 60, run_script, "\n".join(["no"] * 60))
        for many in (61, 62, 100, 1000):
            told = {"many": many, "limit": 60}
            self.refused_every_way(TooMany, told, run_script, "\n" * (many - 1))
            self.refused_every_way(TooMany, told, run_script, "\n".join(["no"] * many))
        self.refused_every_way(TooMany, {"many": 61, "limit": 60}, run_script, "\n".join(["undo"] * 60) + "\n")

    def test_each_script_has_an_engine_of_its_own(self):
        self.same([run_script("put a 0:0:\nnames"), run_script("names\nundo")], [["done", "a"], ["nothing", "nothing"]])

    def test_run_line_changes_the_engine_that_is_passed(self):
        engine = Engine()
        self.same(run_line(line="put a 2:2:x./xx", engine=engine), "done")
        self.same([engine.names, engine.fetch("a"), engine.done], [["a"], Table.of_lots([(0,), (0, 1)], 2), 1])
        engine.store("b", Table.same(2))
        self.same([run_line(engine, "names"), run_line(engine, "kin a b"), run_line(engine, "undo")], ["a b", "unlike", "done"])
        self.same([engine.names, engine.undone, Engine().names], [["a"], 1, []])

    def test_a_refused_line_changes_nothing_and_the_next_line_is_run(self):
        wrong = ["put a 2:2:x.", "put A 0:0:", "drop b", "set a 2 0 yes", "set a 0 0 maybe", "then b a x", "then b a t",
                 "order t", "solve a t", "turn b", "undo 1", "names a", "redo a", "show b", "nothing"]
        engine = Engine()
        for line in ["put a 2:2:x./xx", "put t 3:3:xx./x.x/.xx", "put u 0:0:", "undo"]:
            run_line(engine, line)
        for line in wrong:
            self.assertTrue(run_line(engine, line).startswith("refused "), line)
            self.same([engine.names, engine.done, engine.undone], [["a", "t"], 2, 1])
            self.same([run_line(engine, "show a"), run_line(engine, "names")], ["2:2:x./xx", "a t"])
        self.same(run_line(engine, "redo"), "done")


class Commands(Case):

    def test_words_of_right_lines(self):
        for line in list(RIGHT.values()) + ["set x 6 6 no", "put A.B 0:3:", "drop 1", "then , ; :", "kin - -", "put yes 2:0:/"]:
            self.assertTrue(is_command(line))
            self.answers(line.split(" "), parse_command, line)
        self.answers([], parse_command, "")
        for table in TABLES:
            self.same(parse_command("put a " + word_told(table)), ["put", "a", word_told(table)])

    def test_one_word_too_many_or_too_few_and_blanks(self):
        for line in RIGHT.values():
            words = line.split(" ")
            wrong = [line + " a", line + " 0", line + " ", " " + line, line.upper(), line.capitalize(), line + "  "]
            wrong += [" ".join(words[:at] + words[at + 1:]) for at in range(len(words))]
            wrong += [" ".join(words[:at]) + "  " + " ".join(words[at:]) for at in range(1, len(words))]
            wrong += [" ".join(words[:at] + [""] + words[at + 1:]) for at in range(len(words))]
            for one in [one for one in wrong if one != ""]:
                self.check(one)

    def check(self, line):
        engine = Engine()
        run_line(engine, "put a 2:2:x./xx")
        if is_command(line):
            self.same(parse_command(line), line.split(" "))
        else:
            self.refused_every_way(BadText, {"line": 1}, parse_command, line)
            self.same(run_line(engine, line), "refused BadText")
            self.same(run_script(line), ["refused BadText"])
            self.same([engine.names, engine.done], [["a"], 1])

    def test_words_of_another_form(self):
        for line in RIGHT.values():
            words = line.split(" ")
            for at in range(len(words)):
                for other in ["7", "6", "-1", "00", "x", "yes", "no", "Yes", "2:2:x./x", "7:0:", "0:0:", "a:b:c", "-", ".", "1.0"]:
                    self.check(" ".join(words[:at] + [other] + words[at + 1:]))

    def test_what_is_no_command(self):
        for line in [" ", "  ", "a", "Put a 0:0:", "put", "fetch a", "store a 0:0:", "change a turn", "#", "undo undo", "names "]:
            self.refused_every_way(BadText, {"line": 1}, parse_command, line)

    def test_each_sign_changed(self):
        for line in RIGHT.values():
            for at in range(len(line)):
                for sign in " ax07./:,":
                    self.check(line[:at] + sign + line[at + 1:])
                self.check(line[:at] + line[at + 1:] or "x")

    def test_a_longest_line(self):
        for line in ["a" * 4000, " " * 4000, "show " + "a" * 3995, "put a " + "x" * 3994, "put a " + "0:" * 1997]:
            self.check(line)


class Classes(Case):

    def test_the_class_that_is_due_first(self):
        engine = Engine()
        for line in ["put a 2:2:x./xx", "put t 3:3:xx./x.x/.xx", "put six 6:6:" + "/".join(["x....."] * 6)]:
            run_line(engine, line)
        engine.store("six", Table.same(6))
        cases = {
            "BadText": ["put A 2:2:x.", "put A 2:2", "set A 7 0 yes", "set Q 0 0 Yes", "then A B", "show A B", "kin A", "nil"],
            "BadName": ["put A 0:0:", "drop A", "set A 6 6 yes", "turn A", "then A b c", "then b A c", "then q b A", "show A",
                        "way abcdefghi", "order a1", "rank A", "kin b A", "kin A b", "solve b A", "solve A b", "then A a t"],
            "NoName": ["drop b", "set b 6 6 yes", "turn b", "then q b c", "then q a c", "then q c a", "show b", "way b",
                       "order b", "rank b", "kin a b", "kin b a", "kin six b", "solve a b", "solve b a"],
            "NoFit": ["set a 2 0 yes", "set a 0 2 no", "set a 6 6 yes", "set t 3 3 no"],
            "UnlikeSizes": ["then q a t", "then a t a", "solve a t", "solve t a", "solve six a"],
            "TooMany": ["kin six a", "kin a six", "kin six six"],
            "NoWayBack": ["order t"],
        }
        for told, lines in cases.items():
            for line in lines:
                self.same(run_line(engine, line), "refused " + told)
        self.same([engine.names, engine.done], [["a", "six", "t"], 4])

    def test_a_ninth_name(self):
        lines = [f"put {name} 1:2:xx" for name in "abcdefgh"] + ["put i 0:0:", "then i a a", "then i a b", "put a 1:1:x",
                                                              "then i a a", "then a a a", "put A 0:0:", "names"]
        told = ["done"] * 8 + ["refused TooMany", "refused UnlikeSizes", "refused UnlikeSizes", "done", "refused TooMany",
                               "done", "refused BadName", "a b c d e f g h"]
        self.same(run_script("\n".join(lines)), told)
