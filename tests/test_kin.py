"""Points 43 to 49: matches, kin papers, and what tells two tables apart."""

import itertools

from greatestback.edits import place_columns, place_rows
from greatestback.errors import BadLot, BadPaper, BadPlace, NotJoined, TooMany
from greatestback.kin import (
    MATCH_LIMIT, across_paper, are_kin, back_paper, carry, chain_papers, first_match, is_kin_paper, is_match,
    kin_difference, kin_paper, match_of_paper, paper_of_match, self_paper,
)
from greatestback.tables import Table
from greatestback.unmade import core
from support import ODD, Case, is_lot, near, sample_tables, tables_of_size
from words import (
    carried_of, columns_of, is_kin_paper_of, is_match_of, joined_of, rows_of, table_of, then_of, unmade_columns_of,
    unmade_of, within,
)

ONE = Table.of_lots([(0,), (0, 1)], 2)
TWO = Table.of_lots([(1,), (0, 1), ()], 2)
THREE = Table.of_lots([(0, 1), (0, 2), (1, 2)], 3)
# As many unmade rows, unmade columns and joined rows as THREE, and no match; both with two rows more.
FAULT = Table.of_lots([(1, 2), (0,), (0, 2)], 3)
FIVE_THREE = Table.of_lots([(0, 1), (0, 2), (1, 2), (3,), (4,)], 5)
FIVE_FAULT = Table.of_lots([(1, 2), (0,), (0, 2), (3,), (4,)], 5)
EMPTY = [Table([]), Table([], width=6), Table([[]] * 6), Table.filled(6, 6), Table.filled(1, 2)]
# Tables with five and with six unmade rows, and with as many joined rows as there can be.
FIVE = [Table.same(5), Table.of_lots([(0,), (1,), (2,), (3,), (4,), (0, 1)], 6), ~Table.same(5)]
SIX = [Table.same(6), ~Table.same(6), Table.of_lots([tuple(range(count)) for count in range(1, 7)], 6)]
TINY = [table for height, width in itertools.product(range(3), repeat=2) for table in tables_of_size(height, width)]


def relatives(table):
    """Tables that are kin to a table: its rows and columns placed anew, with joins of its rows and columns more."""
    placed = place_rows(table, tuple(range(table.height))[::-1])
    placed = place_columns(placed, tuple(range(1, table.width)) + (0,) * (table.width > 0))
    more = Table.of_lots((rows_of(table) + [joined_of(table)[-1], ()])[:6], table.width)
    turned = Table(table.columns, width=table.height)
    wider = Table.of_lots((columns_of(table) + [()] + joined_of(turned)[-2:])[:6], table.height)
    wider = Table(wider.columns, width=wider.height)
    return [table, placed, more, wider, core(table), place_rows(more, tuple(range(more.height))[::-1])]


def pairs():
    """Pairs of tables that are kin, and pairs that seldom are."""
    tables = [table for table in list(sample_tables(2, seed=8)) + TINY + [THREE] if len(unmade_of(table)) <= 5]
    for table, other in zip(tables, tables[3:] + tables[:3]):
        for relative in relatives(table):
            yield table, relative
            yield relative, other


PAIRS = list(pairs())
MATCHED = [(one, other, first_match(one, other)) for one, other in PAIRS if first_match(one, other) is not None]
MATCHED += [(SIX[0], place_rows(SIX[0], (5, 3, 1, 0, 2, 4)), (2, 0, 1, 5, 4, 3)), (SIX[1], SIX[1], (5, 4, 3, 2, 1, 0))]


def papers_of(first, second):
    """All right kin papers of two tiny tables, by trying all tables."""
    for y in tables_of_size(first.width, second.width):
        reached = first * y
        back = [z for z in tables_of_size(second.width, first.width) if reached * z == first]
        left = [w for w in tables_of_size(second.height, first.height) if back and w * reached == second]
        right = [v for v in tables_of_size(first.height, second.height) if left and v * second == reached]
        yield from itertools.product([y], back, left, right)


def turned_over(table):
    return Table(table.columns, width=table.height)


def greatest_without(table, column):
    return [row for row in joined_of(table) if column not in row][-1]


def inverse(match):
    return tuple(match.index(i) for i in range(len(match)))


def paper_told(first, second, match):
    """The kin paper of a match, cell by cell as point 46 tells."""
    back = inverse(match)
    y = table_of(first.width, second.width, lambda k, j:
                 k not in carried_of(second, first, back, greatest_without(second, j)))
    z = table_of(second.width, first.width, lambda j, k:
                 j not in carried_of(first, second, match, greatest_without(first, k)))
    reached, rows = rows_of(then_of(first, y)), rows_of(second)
    w = table_of(second.height, first.height, lambda c, i: within(reached[i], rows[c]))
    v = table_of(first.height, second.height, lambda i, c: within(rows[c], reached[i]))
    return (y, z, w, v)


class Matches(Case):

    def test_every_placing_and_the_first_match(self):
        found = 0
        for first, second in PAIRS[::2] + list(itertools.product(FIVE[:2], FIVE[:2])):
            placings = list(itertools.permutations(range(len(unmade_of(first)))))[:24]
            matches = [placing for placing in placings if is_match_of(first, second, placing)]
            self.judges(is_match_of, is_match, [first, second], placings)
            if matches or len(unmade_of(first)) < 5:
                self.same(first_match(first, second), matches[0] if matches else None)
                found += matches != []
        self.assertGreater(found, 100)

    def test_relatives_are_kin_and_the_first_match_need_not_be_the_first_placing(self):
        for table in [one for one, _ in PAIRS[::12]]:
            for relative in relatives(table):
                self.assertIs(are_kin(table, relative), True)
        matches = [match for _, _, match in MATCHED]
        self.assertGreater(len([match for match in matches if match != tuple(range(len(match)))]), 5)

    def test_the_match_sends_the_numbers_of_first_to_those_of_second(self):
        # The rows of five unlike places in the lattice, the first three of them numbered anew.
        one = Table.of_lots([(0,), (1,), (2,), (0, 1, 3), (1, 4)], 5)
        other = Table.of_lots([(0,), (1,), (2,), (1, 2, 3), (2, 4)], 5)
        self.answers((1, 2, 0, 3, 4), first_match, one, other)
        self.answers((2, 0, 1, 3, 4), first_match, other, one)
        self.answers(True, is_match, one, other, (1, 2, 0, 3, 4))
        self.answers(False, is_match, one, other, (2, 0, 1, 3, 4))

    def test_without_unmade_rows_the_empty_tuple_is_the_only_match(self):
        for first, second in itertools.product(EMPTY, EMPTY):
            self.same([first_match(first, second), are_kin(first, second)], [(), True])
            self.judges(lambda _, __, value: value == () and type(value) is tuple, is_match, [first, second], ODD)
            self.same([carry(first, second, (), ()), kin_difference(first, second)], [(), None])

    def test_any_value_may_be_judged(self):
        for first, second, match in MATCHED[::6] + MATCHED[-2:]:
            self.judges(is_match_of, is_match, [first, second], [match] + near(match))
            self.judges(is_match_of, is_match, [first, second], ODD[::3])

    def test_with_unlike_counts_no_value_is_a_match(self):
        for first, second in [(ONE, Table.same(2)), (Table.same(2), Table.same(3)), (THREE, Table.same(3)),
                              (Table([]), Table.same(1)), (Table.same(6), Table([]))]:
            for value in ODD + [(0, 1), (1, 0), (0, 1, 2), ()]:
                self.assertIs(is_match(first, second, value), False)
                self.assertIs(is_match(second, first, value), False)

    def test_no_limit_for_is_match(self):
        for value in [(0, 1, 2, 3, 4, 5), (5, 0, 4, 1, 3, 2)]:
            self.answers(True, is_match, SIX[0], SIX[0], value)
            self.same(is_match(SIX[2], SIX[2], value), value == (0, 1, 2, 3, 4, 5))
            self.same(is_match(SIX[1], SIX[0], value), False)

    def test_kin_just_where_some_paper_is_right(self):
        kinds = set()
        for first, second in itertools.product(TINY[::2], TINY[1::3]):
            found = any(True for _ in papers_of(first, second))
            kinds.add(found)
            self.same([are_kin(first, second), first_match(first, second) is not None], [found, found])
            self.same([kin_paper(first, second) is None, kin_difference(first, second) is None], [not found, found])
        self.assertEqual(kinds, {True, False})

    def test_by_position_and_by_name(self):
        self.answers((0, 1), first_match, ONE, TWO)
        self.answers(None, first_match, ONE, Table.same(2))
        self.answers(True, are_kin, ONE, TWO)
        self.answers(False, are_kin, THREE, Table.same(3))
        self.answers(True, is_match, ONE, TWO, (0, 1))
        self.answers(False, is_match, ONE, TWO, (1, 0))


class Limit(Case):

    def test_five_unmade_rows_are_answered(self):
        self.same(MATCH_LIMIT, 5)
        for first, second in itertools.product(FIVE + [ONE, Table([])], repeat=2):
            match = first_match(first, second)
            self.assertIs(are_kin(first, second), match is not None)
            self.assertIs(kin_paper(first, second) is not None, match is not None)
            self.assertIs(kin_difference(first, second) is None, match is not None)
        self.same([first_match(FIVE[0], FIVE[1]), first_match(FIVE[0], FIVE[2])], [(0, 1, 2, 3, 4), None])

    def test_six_are_too_many_in_each_place(self):
        told = {"many": 6, "limit": 5}
        for table in SIX:
            self.assertEqual(len(unmade_of(table)), 6)
            for other in FIVE + SIX + EMPTY + [ONE, THREE]:
                for function in [first_match, kin_paper, are_kin]:
                    self.refused_every_way(TooMany, told, function, table, other)
                    self.refused_every_way(TooMany, told, function, other, table)

    def test_kin_difference_is_refused_only_where_the_three_counts_agree(self):
        told = {"many": 6, "limit": 5}
        for one, other in itertools.product(SIX, SIX):
            counts = [(len(unmade_of(table)), len(unmade_columns_of(table)), len(joined_of(table)))
                      for table in (one, other)]
            if counts[0] == counts[1]:
                self.refused_every_way(TooMany, told, kin_difference, one, other)
            else:
                self.same(kin_difference(one, other), difference_told(one, other))
        self.refused_every_way(TooMany, told, kin_difference, SIX[0], place_rows(SIX[0], (1, 0, 2, 3, 4, 5)))
        for other in FIVE + EMPTY + [ONE]:
            self.same(kin_difference(SIX[0], other), ("unmade rows", 6, len(unmade_of(other))))
            self.same(kin_difference(other, SIX[0]), ("unmade rows", len(unmade_of(other)), 6))


class Carry(Case):

    def test_joined_rows_go_one_to_one_onto_the_joined_rows(self):
        for first, second, match in MATCHED:
            rows = joined_of(first)
            carried = [carry(first, second, match, row) for row in rows]
            self.assertEqual(sorted(carried), sorted(joined_of(second)))
            some = rows if len(rows) < 12 else rows[::7]
            self.same([carry(first, second, match, row) for row in some],
                      [carried_of(first, second, match, row) for row in some])

    def test_by_position_and_by_name(self):
        self.answers((1,), carry, ONE, TWO, (0, 1), (0,))
        self.answers((0, 1), carry, ONE, TWO, (0, 1), (0, 1))
        self.answers((0, 2), carry, Table.same(3), Table.same(3), (2, 1, 0), (0, 2))
        self.answers((2,), carry, Table.same(3), Table.same(3), (2, 0, 1), (0,))

    def test_bad_placings_go_before_bad_lots(self):
        for first, second in [(ONE, TWO), (Table.same(2), Table.same(2)), (ONE, Table.same(2))]:
            for odd in ODD + [(1, 0), (0, 1)]:
                if not is_match_of(first, second, odd):
                    for lot in [(), (0,), (1,), (5,), None]:
                        self.refused_every_way(BadPlace, {"place": odd}, carry, first, second, odd, lot)
                    self.refused_every_way(BadPlace, {"place": odd}, paper_of_match, first, second, odd)

    def test_bad_lots_go_before_lots_that_are_not_joined(self):
        first = Table.of_lots([(0, 3), (0, 1, 3)], 4)
        match = first_match(first, TWO)
        for odd in ODD:
            if not is_lot(odd, 4):
                self.refused_every_way(BadLot, {"lot": odd}, carry, first, TWO, match, odd)
            elif odd not in joined_of(first):
                self.refused_every_way(NotJoined, {"lot": odd}, carry, first, TWO, match, odd)
        self.refused(NotJoined, {"lot": (1,)}, carry, first, TWO, match, (1,))
        self.refused(BadLot, {"lot": (1,)}, carry, Table.filled(2, 1), Table([]), (), (1,))

    def test_lots_are_of_first(self):
        wide = Table.of_lots([(0,), (0, 1)], 6)
        self.refused(NotJoined, {"lot": (5,)}, carry, wide, ONE, (0, 1), (5,))
        self.refused(BadLot, {"lot": (5,)}, carry, ONE, wide, (0, 1), (5,))


class Papers(Case):

    def test_the_paper_of_a_match(self):
        for first, second, match in MATCHED:
            told = paper_told(first, second, match)
            self.same(paper_of_match(first, second, match), told)
            self.assertIs(is_kin_paper_of(first, second, told), True)
            self.assertIs(is_kin_paper(first, second, told), True)
            self.same(match_of_paper(first, second, told), match)

    def test_other_matches_than_the_first_one_too(self):
        table = Table.of_lots([(0,), (1,), (2,), (0, 3)], 4)
        for match in itertools.permutations(range(4)):
            if is_match_of(table, table, match):
                paper = paper_of_match(table, table, match)
                self.same(paper, paper_told(table, table, match))
                self.same(match_of_paper(table, table, paper), match)

    def test_kin_paper_is_that_of_the_first_match(self):
        for first, second in PAIRS[::3]:
            match = first_match(first, second)
            self.same(kin_paper(first, second), None if match is None else paper_told(first, second, match))

    def test_a_paper_with_a_part_changed_and_any_value(self):
        for first, second, match in MATCHED[::12] + MATCHED[-2:]:
            paper = paper_told(first, second, match)
            self.judges(is_kin_paper_of, is_kin_paper, [first, second], [paper] + near(paper) + ODD)

    def test_every_right_paper_of_tiny_tables(self):
        papers = 0
        for first, second in itertools.product(TINY[::3], TINY[1::4]):
            for paper in papers_of(first, second):
                papers += 1
                self.assertIs(is_kin_paper(first, second, paper), True)
                match = match_of_paper(first, second, paper)
                self.assertIs(is_match(first, second, match), True)
                through = [tuple(sorted({j for k in row for j in range(second.width) if paper[0].rows[k][j]}))
                           for row in unmade_of(first)]
                self.same(match, tuple(unmade_of(second).index(row) for row in through))
        self.assertGreater(papers, 500)

    def test_a_paper_of_other_tables_is_not_right(self):
        paper = kin_paper(ONE, TWO)
        self.answers(True, is_kin_paper, ONE, TWO, paper)
        self.answers(False, is_kin_paper, TWO, ONE, paper)
        self.answers(False, is_kin_paper, ONE, ONE, paper)
        self.answers(False, is_kin_paper, ONE, TWO, list(paper))
        self.answers(False, is_kin_paper, ONE, TWO, paper[:3])
        self.answers(False, is_kin_paper, ONE, TWO, paper + (Table([]),))
        for one, other in itertools.product(EMPTY, EMPTY):
            self.same([is_kin_paper(one, other, ()), is_kin_paper(one, other, None)], [False, False])

    def test_each_equation_counts(self):
        broken = set()
        for y, z, w, v in itertools.product(list(tables_of_size(1, 1)), repeat=4):
            first = second = Table.same(1)
            told = (y * z == first, w * y == second, v == y)
            broken.add(told)
            self.assertIs(is_kin_paper(first, second, (y, z, w, v)), all(told))
        self.assertIn((True, True, False), broken)
        self.assertIn((True, False, True), broken)
        self.assertIn((False, True, True), broken)

    def test_by_position_and_by_name(self):
        paper = paper_told(ONE, TWO, (0, 1))
        self.answers(paper, kin_paper, ONE, TWO)
        self.answers(None, kin_paper, ONE, Table.same(2))
        self.answers(paper, paper_of_match, ONE, TWO, (0, 1))
        self.answers((0, 1), match_of_paper, ONE, TWO, paper)
        self.answers((2, 0, 1), match_of_paper, Table.same(3), Table.same(3),
                     paper_told(Table.same(3), Table.same(3), (2, 0, 1)))

    def test_example(self):
        self.same([first_match(ONE, TWO), [part.row_lots for part in kin_paper(ONE, TWO)],
                   kin_difference(ONE, Table.same(2))],
                  [(0, 1), [[(1,), (0, 1)], [(0, 1), (0,)], [(0,), (0, 1), ()], [(0, 2), (0, 1, 2)]],
                   ("joined rows", 3, 4)])


class PapersFromPapers(Case):

    def test_self_paper(self):
        for table in list(sample_tables(1)) + SIX:
            wide, high = Table.same(table.width), Table.same(table.height)
            self.same(self_paper(table), (wide, wide, high, high))
            self.assertIs(is_kin_paper_of(table, table, self_paper(table)), True)
        self.answers((Table.same(3), Table.same(3), Table.same(1), Table.same(1)), self_paper, Table.filled(1, 3))

    def test_back_and_across(self):
        for first, second, match in MATCHED:
            y, z, w, v = paper = paper_told(first, second, match)
            self.same(back_paper(first, second, paper), (z, y, v, w))
            self.assertIs(is_kin_paper_of(second, first, (z, y, v, w)), True)
            across = tuple(turned_over(part) for part in (w, v, y, z))
            self.same(across_paper(first, second, paper), across)
            self.assertIs(is_kin_paper_of(turned_over(first), turned_over(second), across), True)

    def test_chain(self):
        for first, middle, match in MATCHED[::2]:
            paper = paper_told(first, middle, match)
            for last in relatives(middle)[1:5:2] if len(match) <= 5 else [middle]:
                next_match = first_match(middle, last) if len(match) <= 5 else match[::-1]
                if is_match(middle, last, next_match):
                    next_paper = paper_told(middle, last, next_match)
                    told = (then_of(paper[0], next_paper[0]), then_of(next_paper[1], paper[1]),
                            then_of(next_paper[2], paper[2]), then_of(paper[3], next_paper[3]))
                    self.same(chain_papers(first, middle, last, paper, next_paper), told)
                    self.assertIs(is_kin_paper_of(first, last, told), True)

    def test_of_every_right_paper_of_tiny_tables(self):
        for first, second in itertools.product(TINY[::7], TINY[1::5]):
            for paper in papers_of(first, second):
                self.assertTrue(is_kin_paper_of(second, first, back_paper(first, second, paper)))
                across = across_paper(first, second, paper)
                self.assertTrue(is_kin_paper_of(turned_over(first), turned_over(second), across))
                chain = chain_papers(first, second, first, paper, back_paper(first, second, paper))
                self.assertTrue(is_kin_paper_of(first, first, chain))

    def test_by_position_and_by_name(self):
        y, z, w, v = paper = paper_told(ONE, TWO, (0, 1))
        self.answers((z, y, v, w), back_paper, ONE, TWO, paper)
        self.answers(tuple(turned_over(part) for part in (w, v, y, z)), across_paper, ONE, TWO, paper)
        self.answers((y * z, y * z, v * w, v * w), chain_papers, ONE, TWO, ONE, paper, (z, y, v, w))

    def test_wrong_papers(self):
        paper = paper_told(ONE, TWO, (0, 1))
        for function in [match_of_paper, back_paper, across_paper]:
            for odd in ODD + near(paper)[::3] + [back_paper(ONE, TWO, paper), self_paper(ONE)]:
                if not is_kin_paper_of(ONE, TWO, odd):
                    self.refused_every_way(BadPaper, {"paper": odd}, function, ONE, TWO, odd)

    def test_the_first_paper_goes_before_the_next_one(self):
        paper, next_paper = paper_told(ONE, TWO, (0, 1)), back_paper(ONE, TWO, paper_told(ONE, TWO, (0, 1)))
        self.same(is_kin_paper(ONE, ONE, chain_papers(ONE, TWO, ONE, paper, next_paper)), True)
        for odd in ODD + [next_paper, self_paper(ONE), self_paper(TWO)]:
            for other in [next_paper, None, odd, ((), [])]:
                self.refused_every_way(BadPaper, {"paper": odd}, chain_papers, ONE, TWO, ONE, odd, other)
            if odd != next_paper:
                self.refused_every_way(BadPaper, {"paper": odd}, chain_papers, ONE, TWO, ONE, paper, odd)
        self.refused(BadPaper, {"paper": next_paper}, chain_papers, ONE, TWO, TWO, paper, next_paper)
        self.refused(BadPaper, {"paper": paper}, chain_papers, ONE, ONE, TWO, paper, paper)


def difference_told(first, second):
    """Point 49 in its sequence; only the matches are left to is_match_of."""
    for name, count in [("unmade rows", lambda table: len(unmade_of(table))),
                        ("unmade columns", lambda table: len(unmade_columns_of(table))),
                        ("joined rows", lambda table: len(joined_of(table)))]:
        if count(first) != count(second):
            return (name, count(first), count(second))
    placings = itertools.permutations(range(len(unmade_of(first))))
    return None if any(is_match_of(first, second, placing) for placing in placings) else ("match",)


class Difference(Case):

    def test_the_sequence(self):
        kinds = set()
        chain, other = Table.of_lots([(3,), (3, 4), (0, 3, 4)], 5), Table.of_lots([(0, 1), (0, 2), (1, 2, 3)], 4)
        for first, second in PAIRS[::3] + [(ONE, THREE), (chain, other)]:
            if len(unmade_of(first)) <= 4:
                told = difference_told(first, second)
                kinds.add(told and told[0])
                self.same(kin_difference(first, second), told)
                self.same(kin_difference(second, first), told and (told[:1] + told[:0:-1]))
        self.assertLessEqual({None, "unmade rows", "unmade columns", "joined rows"}, kinds)

    def test_each_kind(self):
        self.answers(None, kin_difference, ONE, TWO)
        self.answers(("unmade rows", 2, 3), kin_difference, ONE, Table.same(3))
        self.answers(("unmade columns", 3, 4), kin_difference, Table.of_lots([(3,), (3, 4), (0, 3, 4)], 5),
                     Table.of_lots([(0, 1), (0, 2), (1, 2, 3)], 4))
        self.answers(("joined rows", 3, 4), kin_difference, ONE, Table.same(2))
        self.answers(("match",), kin_difference, FIVE_FAULT, FIVE_THREE)

    def test_only_the_matches_are_unlike(self):
        for first, second in [(FAULT, THREE), (FIVE_FAULT, FIVE_THREE)]:
            self.same([difference_told(first, second), difference_told(second, first)], [("match",), ("match",)])
            self.same([kin_difference(first, second), kin_difference(second, first)], [("match",), ("match",)])
            self.same([first_match(first, second), kin_paper(second, first)], [None, None])
            self.same([are_kin(first, second), are_kin(first, first)], [False, True])
