"""Points 68 to 70: names, engines, deeds, and taking them back."""

import itertools
import random

from greatestback.edits import apply_edit
from greatestback.engine import NAME_LIMIT, Engine
from greatestback.errors import BadEdit, BadName, NoFit, NoName, NoWayBack, TooMany, UnlikeSizes
from greatestback.tables import Table
from support import ODD, Case, Walk, refusal, sample_tables
from words import (
    bad_of, first_bad_paper_of, greatest_under_of, is_name_told, kin_order_of, then_of, unmade_columns_of, unmade_of,
    verdict_told,
)

TABLES = list(sample_tables(1, seed=16))
THREE = Table.of_lots([(0, 1), (0, 2), (1, 2)], 3)
EXAMPLE = Table.of_lots([(0,), (0, 1)], 2)
NAMES = ["a", "b", "zz", "abcdefgh", "way", "undo", "hgfedcba", "q"]
EIGHT = ["a", "b", "c", "d", "e", "f", "g", "hhhhhhhh"]
NO_NAMES = ["", "A", "aB", "abcdefghi", "a b", " a", "a ", "a1", "1", "a_", "-", "a\n", "\n", "{", "`", "aa,", "a-b"]
EDITS = [("set", 0, 0, True), ("set", 1, 0, False), ("turn",), ("add row", 0, ()), ("add column", 0, (0,)), ("drop row", 0),
         ("drop column", 0), ("swap rows", 0, 1), ("swap columns", 1, 0), ("set", 6, 6, True), ("drop row", 6)]


def filled(names, table=EXAMPLE):
    engine = Engine()
    for name in names:
        engine.store(name, table)
    return engine


class Names(Case):

    def test_names_and_what_is_none(self):
        for name in NAMES + ["abcdefgh", "z", "aaaaaaaa"]:
            engine = filled([name])
            self.same([engine.names, name in engine, engine.fetch(name)], [[name], True, EXAMPLE])
        for odd in NO_NAMES + ODD:
            if not is_name_told(odd):
                engine = filled(["a"])
                self.refused_every_way(BadName, {"name": odd}, engine.store, odd, THREE)
                for function in [engine.fetch, engine.drop, engine.way_of, engine.order_of, engine.ranks_of,
                                 engine.verdict_for]:
                    self.refused_every_way(BadName, {"name": odd}, function, odd)
                self.refused_every_way(BadName, {"name": odd}, engine.change, odd, ("turn",))
                for function in [engine.kin_of, engine.solve_of]:
                    self.refused_every_way(BadName, {"name": odd}, function, odd, "a")
                    self.refused_every_way(BadName, {"name": odd}, function, "a", odd)
                    self.refused_every_way(BadName, {"name": odd}, function, odd, "A")
                for names in [(odd, "a", "a"), ("b", odd, "a"), ("b", "a", odd), (odd, "A", 0), ("b", odd, "A")]:
                    self.refused_every_way(BadName, {"name": odd}, engine.compose, *names)
                self.same([engine.names, engine.done, engine.undone], [["a"], 1, 0])

    def test_in(self):
        engine = filled(["a", "abcdefgh"])
        for value in ODD + NO_NAMES + NAMES + [("a",), ["a"]]:
            self.assertIs(value in engine, type(value) is str and value in ["a", "abcdefgh"])
        engine.drop("a")
        self.same(["a" in engine, "abcdefgh" in engine], [False, True])
        engine.undo()
        self.same("a" in engine, True)

    def test_not_held(self):
        engine = filled(["a", "b"])
        engine.undo()
        for name in ["b", "c", "abcdefgh"]:
            told = {"name": name}
            for function in [engine.fetch, engine.drop, engine.way_of, engine.order_of, engine.ranks_of,
                             engine.verdict_for]:
                self.refused_every_way(NoName, told, function, name)
            for function in [engine.kin_of, engine.solve_of]:
                self.refused_every_way(NoName, told, function, name, "a")
                self.refused_every_way(NoName, told, function, "a", name)
                self.refused_every_way(NoName, told, function, name, "zzz")
            self.refused_every_way(NoName, told, engine.change, name, ("turn",))
            for names in [("a", name, "a"), ("new", "a", name), ("a", name, "zzz")]:
                self.refused_every_way(NoName, told, engine.compose, *names)
        self.same([engine.names, engine.done, engine.undone], [["a"], 1, 1])

    def test_in_alphabetical_order(self):
        source = random.Random(3)
        for _ in range(20):
            names = source.sample(NAMES + ["aa", "ab", "b", "ba"], 6)
            self.same(filled(names).names, sorted(set(names)))

    def test_a_changed_list_of_names_changes_nothing(self):
        engine = filled(["b", "a"])
        engine.names.append("c")
        engine.names.clear()
        self.same([engine.names, "c" in engine, engine.done], [["a", "b"], False, 2])

    def test_eight_names_and_a_ninth(self):
        self.same(NAME_LIMIT, 8)
        engine = filled(EIGHT)
        told = {"many": 9, "limit": 8}
        self.refused_every_way(TooMany, told, engine.store, "ninth", THREE)
        self.refused_every_way(TooMany, told, engine.compose, "ninth", "a", "b")
        self.same([engine.names, engine.done, engine.undone], [EIGHT, 8, 0])
        engine.store("a", THREE)
        engine.compose("b", "a", "a")
        engine.change("c", ("turn",))
        self.same([engine.names, engine.fetch("a"), engine.fetch("b")], [EIGHT, THREE, then_of(THREE, THREE)])
        engine.drop("d")
        engine.store("ninth", THREE)
        self.same(len(engine.names), 8)
        self.refused_every_way(TooMany, told, engine.store, "d", THREE)

    def test_an_engine_counts_as_true(self):
        self.assertTrue(Engine())


class Deeds(Case):

    def test_each_deed_returns_none_and_can_be_undone(self):
        engine = filled(["a"])
        deeds = [(engine.store, "b", THREE), (engine.store, "a", EXAMPLE), (engine.change, "a", ("turn",)),
                 (engine.compose, "c", "a", "a"), (engine.drop, "b")]
        for number, (function, *args) in enumerate(deeds, start=1):
            self.assertIsNone(function(*args))
            self.same([engine.done, engine.undone], [number + 1, 0])
        self.same(engine.names, ["a", "c"])
        for number in range(len(deeds), 0, -1):
            self.same(engine.undo(), True)
            self.same([engine.done, engine.undone], [number, len(deeds) + 1 - number])
        self.same([engine.names, engine.fetch("a")], [["a"], EXAMPLE])

    def test_by_name(self):
        engine = Engine()
        engine.store(table=THREE, name="a")
        engine.change(edit=("set", 0, 2, True), name="a")
        engine.compose(second="a", first="a", name="b")
        self.same(engine.fetch(name="a"), apply_edit(THREE, ("set", 0, 2, True)))
        engine.drop(name="b")
        self.same([engine.names, engine.done], [["a"], 4])

    def test_example(self):
        engine = Engine()
        engine.store("a", Table.same(2))
        engine.change("a", ("set", 1, 0, True))
        engine.compose("b", "a", "a")
        engine.undo()
        self.same([engine.names, engine.done, engine.undone, engine.fetch("a").row_lots, "b" in engine],
                  [["a"], 2, 1, [(0,), (0, 1)], False])

    def test_a_new_deed_that_changes_nothing_forgets_what_is_undone(self):
        deeds = [("store", "a", EXAMPLE), ("change", "a", ("swap rows", 1, 1)), ("change", "a", ("set", 0, 0, True)),
                 ("compose", "a", "a", "same")]
        for name, *args in deeds:
            engine = filled(["a"])
            engine.store("same", Table.same(2))
            engine.store("b", THREE)
            engine.undo()
            getattr(engine, name)(*args)
            self.same([engine.done, engine.undone, engine.fetch("a"), engine.names], [3, 0, EXAMPLE, ["a", "same"]])
            self.same([engine.redo(), "b" in engine], [False, False])
            self.same([engine.undo(), engine.undone], [True, 1])

    def test_compose_under_one_of_the_two_names(self):
        engine = filled(["a"])
        engine.store("b", Table.of_lots([(0, 1, 2), (1,)], 3))
        engine.compose("a", "a", "b")
        self.same([engine.fetch("a"), engine.names], [then_of(EXAMPLE, Table.of_lots([(0, 1, 2), (1,)], 3)), ["a", "b"]])
        engine.undo()
        engine.compose("b", "a", "b")
        self.same([engine.fetch("a"), engine.fetch("b")], [EXAMPLE, then_of(EXAMPLE, Table.of_lots([(0, 1, 2), (1,)], 3))])

    def test_nothing_to_undo_and_nothing_to_redo(self):
        engine = Engine()
        self.same([engine.undo(), engine.redo(), engine.done, engine.undone, engine.names], [False, False, 0, 0, []])
        engine.store("a", THREE)
        self.same([engine.redo(), engine.undo(), engine.undo(), engine.redo(), engine.redo()],
                  [False, True, False, True, False])
        self.same(engine.fetch("a"), THREE)

    def test_200_deeds_all_undone_and_done_again(self):
        engine, walk, source = Engine(), Walk(), random.Random(21)
        for number in range(200):
            name, table = source.choice(NAMES), source.choice(TABLES)
            engine.store(name, table)
            walk.become({**walk.held(), name: table})
        for by, function in [(-1, engine.undo), (1, engine.redo), (-1, engine.undo)]:
            for _ in range(200):
                self.same(function(), walk.step(by))
                self.same([engine.names, engine.done, engine.undone], [sorted(walk.held()), walk.at, 200 - walk.at])
            self.same(function(), False)
        for _ in range(100):
            engine.redo()
        self.same([engine.done, engine.undone], [100, 100])


class Runs(Case):

    def agrees(self, engine, walk):
        held = walk.held()
        self.same(engine.names, sorted(held))
        self.same([engine.done, engine.undone], [walk.at, len(walk.states) - 1 - walk.at])
        for name in NAMES + ["ninth"]:
            self.assertIs(name in engine, name in held)
            if name in held:
                self.same(engine.fetch(name), held[name])

    def deed(self, engine, walk, source):
        """One random deed, tried in the engine and walked; it may be refused."""
        held = walk.held()
        name, first, second = [source.choice(NAMES + ["ninth"]) for _ in range(3)]
        kind = source.choice(["store", "store", "change", "change", "compose", "drop"])
        if kind == "store":
            table = source.choice(TABLES)
            self.told(engine.store, [name, table], TooMany if name not in held and len(held) == 8 else None)
            self.done(walk, name, table, name in held or len(held) < 8)
        elif kind == "drop":
            self.told(engine.drop, [name], None if name in held else NoName)
            if name in held:
                walk.become({one: table for one, table in held.items() if one != name})
        elif kind == "change":
            edit = source.choice(EDITS)
            after = refusal(apply_edit, held[name], edit) if name in held else NoName
            self.told(engine.change, [name, edit], after)
            self.done(walk, name, apply_edit(held[name], edit) if after is None else None, after is None)
        else:
            after = NoName if first not in held or second not in held else None
            if after is None and held[first].width != held[second].height:
                after = UnlikeSizes
            if after is None and name not in held and len(held) == 8:
                after = TooMany
            self.told(engine.compose, [name, first, second], after)
            self.done(walk, name, None if after else then_of(held[first], held[second]), after is None)

    def told(self, function, args, expected):
        self.assertIs(refusal(function, *args), expected)

    def done(self, walk, name, table, right):
        if right:
            walk.become({**walk.held(), name: table})

    def test_long_mixed_runs(self):
        for seed in range(12):
            engine, walk, source = Engine(), Walk(), random.Random(seed)
            for _ in range(150):
                choice = source.randrange(10)
                if choice < 2:
                    self.same(engine.undo(), walk.step(-1))
                elif choice < 3:
                    self.same(engine.redo(), walk.step(1))
                elif choice < 4:
                    self.ask(engine, source)
                else:
                    self.deed(engine, walk, source)
                self.agrees(engine, walk)

    def ask(self, engine, source):
        """Questions, and calls that are refused: none of them changes anything."""
        name, other = source.choice(NAMES), source.choice(NAMES)
        for function in [engine.way_of, engine.order_of, engine.ranks_of, engine.verdict_for, engine.fetch]:
            refusal(function, name)
        for function in [engine.kin_of, engine.solve_of]:
            refusal(function, name, other)
        for function, args in [(engine.store, ["", THREE]), (engine.change, [name, None]), (engine.drop, ["Z"]),
                               (engine.compose, [name, other, "unheld"]), (engine.change, [name, ("drop row", 6)])]:
            self.assertIsNotNone(refusal(function, *args))

    def test_a_refused_call_and_a_question_change_and_forget_nothing(self):
        engine = filled(["a", "b"])
        engine.store("three", THREE)
        engine.store("c", THREE)
        engine.undo()
        before = [engine.names, engine.done, engine.undone, engine.fetch("a"), engine.fetch("three")]
        wrong = [(engine.store, ["A", THREE]), (engine.drop, ["c"]), (engine.change, ["a", ("set", 2, 2, True)]),
                 (engine.change, ["a", None]), (engine.change, ["c", ("turn",)]), (engine.compose, ["a", "a", "three"]),
                 (engine.compose, ["a", "c", "a"]), (engine.order_of, ["three"]), (engine.solve_of, ["a", "three"]),
                 (engine.fetch, ["c"])]
        for function, args in wrong:
            self.assertIsNotNone(refusal(function, *args))
            self.same([engine.names, engine.done, engine.undone, engine.fetch("a"), engine.fetch("three")], before)
        for function in [engine.way_of, engine.ranks_of, engine.verdict_for, engine.fetch]:
            function("three")
        engine.kin_of("a", "b")
        engine.solve_of("a", "b")
        self.assertIs("a" in engine, True)
        self.same([engine.names, engine.done, engine.undone, engine.fetch("a"), engine.fetch("three")], before)
        self.same([engine.redo(), engine.fetch("c")], [True, THREE])

    def test_engines_know_nothing_of_one_another(self):
        one, other = filled(["a"]), filled(["b"], THREE)
        one.store("b", EXAMPLE)
        one.drop("a")
        self.same([other.names, other.done, other.fetch("b")], [["b"], 1, THREE])
        other.undo()
        self.same([one.names, one.done, one.undone, Engine().names], [["b"], 3, 0, []])

    def test_what_a_name_answers_depends_on_its_table_alone(self):
        plain = filled(["a"], THREE)
        engine = filled(["a", "b"])
        engine.way_of("a")
        engine.verdict_for("a")
        engine.drop("a")
        engine.undo()
        engine.store("a", THREE)
        for function in ["way_of", "ranks_of", "verdict_for", "fetch"]:
            self.same(getattr(engine, function)("a"), getattr(plain, function)("a"))
        engine.undo()
        self.same(engine.way_of("a"), ("back", greatest_under_of(EXAMPLE)))


class Questions(Case):

    def test_of_one_name(self):
        engine = Engine()
        for table in TABLES + [THREE, Table.same(6)]:
            engine.store("a", table)
            if bad_of(table):
                self.answers(("bad", first_bad_paper_of(table)), engine.way_of, "a")
                self.refused_every_way(NoWayBack, {"paper": first_bad_paper_of(table)}, engine.order_of, "a")
            else:
                self.answers(("back", greatest_under_of(table)), engine.way_of, "a")
                self.answers(kin_order_of(table), engine.order_of, "a")
            self.answers((len(unmade_of(table)), len(unmade_columns_of(table))), engine.ranks_of, "a")
            self.answers(verdict_told(table), engine.verdict_for, "a")
            self.answers(table, engine.fetch, "a")
            engine.undo()

    def test_of_two_names(self):
        engine = filled(["a"])
        engine.store("b", Table.of_lots([(1,), (0, 1), ()], 2))
        engine.store("c", Table.same(2))
        engine.store("six", Table.same(6))
        for first, second, expected in [("a", "b", True), ("b", "a", True), ("a", "c", False), ("c", "c", True)]:
            self.answers(expected, engine.kin_of, first, second)
        for names in [("six", "a"), ("a", "six"), ("six", "six")]:
            self.refused_every_way(TooMany, {"many": 6, "limit": 5}, engine.kin_of, *names)

    def test_equations(self):
        engine = filled(["a"])
        engine.store("b", Table.of_lots([(0,), ()], 1))
        engine.store("c", Table.of_lots([(0,), (0,)], 1))
        engine.store("six", Table.same(6))
        self.answers((Table([[False], [False]]), (0, 0)), engine.solve_of, "a", "b")
        self.answers((Table([[True], [True]]), None), engine.solve_of, "a", "c")
        self.refused_every_way(UnlikeSizes, {"first": (2, 2), "second": (6, 6)}, engine.solve_of, "a", "six")
        # The first table is A and the second one B.
        self.answers((Table([[True, False]]), (1, 0)), engine.solve_of, "b", "a")


class Sequence(Case):

    def test_change(self):
        engine = filled(["a"])
        for odd in [None, "turn", ["turn"], ("set", 0, 0, 1), ("set", 7, 0, True), (), ("Turn",)]:
            self.refused_every_way(BadName, {"name": "A"}, engine.change, "A", odd)
            self.refused_every_way(BadEdit, {"edit": odd}, engine.change, "b", odd)
            self.refused_every_way(BadEdit, {"edit": odd}, engine.change, "a", odd)
        unfit = ("drop row", 2)
        self.refused_every_way(NoName, {"name": "b"}, engine.change, "b", unfit)
        self.refused_every_way(NoFit, {"edit": unfit}, engine.change, "a", unfit)
        for odd in ODD:
            if refusal(apply_edit, EXAMPLE, odd) is BadEdit:
                self.refused_every_way(BadEdit, {"edit": odd}, engine.change, "a", odd)

    def test_compose(self):
        engine = filled(EIGHT)
        engine.store("a", Table.filled(2, 3))
        self.refused_every_way(BadName, {"name": "A"}, engine.compose, "new", "unheld", "A")
        self.refused_every_way(BadName, {"name": "N"}, engine.compose, "N", "unheld", "A")
        self.refused_every_way(NoName, {"name": "unheld"}, engine.compose, "new", "a", "unheld")
        self.refused_every_way(UnlikeSizes, {"first": (2, 3), "second": (2, 2)}, engine.compose, "new", "a", "b")
        self.refused_every_way(UnlikeSizes, {"first": (2, 3), "second": (2, 3)}, engine.compose, "a", "a", "a")
        self.refused_every_way(TooMany, {"many": 9, "limit": 8}, engine.compose, "new", "b", "a")
        engine.compose("a", "b", "a")
        self.same([engine.fetch("a"), engine.done], [Table.filled(2, 3), 10])

    def test_store(self):
        engine = filled(EIGHT)
        self.refused_every_way(BadName, {"name": "newnewnew"}, engine.store, "newnewnew", THREE)
        self.refused_every_way(TooMany, {"many": 9, "limit": 8}, engine.store, "newnew", THREE)

    def test_questions_of_two(self):
        engine = filled(["a"])
        for function, (first, second) in itertools.product([engine.kin_of, engine.solve_of], [("b", "A"), ("A", "b")]):
            self.refused_every_way(BadName, {"name": "A"}, function, first, second)
