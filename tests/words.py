"""What the document's words say, walked slowly: sets of numbers, all choices, all lists, all tables."""

import itertools
import random
import re

from greatestback.tables import Table
from support import lot_order, row_sets


def lot(numbers):
    return tuple(sorted(set(numbers)))


def join(lots):
    return lot(number for one in lots for number in one)


def within(one, other):
    return set(one) <= set(other)


def remembered(function):
    """The function of a table, with its answers kept: the slow walks are asked again and again."""
    answers = {}

    def answer(table):
        key = (table.width, tuple(table))
        if key not in answers:
            answers[key] = function(table)
        told = answers[key]
        return dict(told) if isinstance(told, dict) else list(told)
    return answer


@remembered
def rows_of(table):
    """The lots of the rows, from the cells."""
    return [lot(row) for row in row_sets(table)]


@remembered
def columns_of(table):
    """The lots of the columns, from the cells."""
    return [lot(i for i in range(table.height) if table.rows[i][k]) for k in range(table.width)]


def joins_of(lots):
    """Point 22 word by word: one choice of lots after another."""
    joins = [()]
    for one in lots:
        joins = lot_order(joins + [join([one, other]) for other in joins])
    return joins


@remembered
def joined_of(table):
    return joins_of(rows_of(table))


def lower(joined, row):
    """The joined rows within a joined row and not equal to it."""
    return [one for one in joined if one != row and within(one, row)]


def upper(joined, row):
    return [one for one in joined if one != row and within(row, one)]


def unmade_among(joined):
    return [row for row in joined if join(lower(joined, row)) != row]


@remembered
def unmade_of(table):
    return unmade_among(joined_of(table))


@remembered
def unmade_columns_of(table):
    return unmade_among(joins_of(columns_of(table)))


def greatest_within(joined, numbers):
    """The greatest joined row within a set, by looking at all of them."""
    return [row for row in joined if set(row) <= set(numbers)][-1]


def both_of(joined, lots):
    """Both of a list of joined rows; of none, the top."""
    return greatest_within(joined, set(joined[-1]).intersection(*lots))


def unmet_of(table):
    joined = joined_of(table)
    return [row for row in joined if both_of(joined, upper(joined, row)) != row]


def own_of(table, wanted):
    """The column numbers that a row has if and only if it holds the lot."""
    rows = rows_of(table)
    return tuple(k for k in range(table.width) if all((k in row) == within(wanted, row) for row in rows))


def is_prime_by_lists(joined, row):
    """Point 29 over every list of joined rows without repeats."""
    lists = itertools.chain(*[itertools.combinations(joined, count) for count in range(len(joined) + 1)])
    return all(any(within(row, one) for one in told) for told in lists if within(row, join(told)))


def is_prime_of(joined, row):
    """Point 29 with the one list that matters: all joined rows that do not hold the row."""
    return not within(row, join([one for one in joined if not within(row, one)]))


@remembered
def bad_of(table):
    """The bad rows: unmade and not prime."""
    joined = joined_of(table)
    return [row for row in unmade_among(joined) if not is_prime_of(joined, row)]


def bad_paper_of(table, bad):
    """The bad paper of a bad row, as point 31 tells how it is made."""
    taken = []
    for row in rows_of(table):
        if not within(bad, row):
            if within(bad, join(taken + [row])):
                return (bad, join(taken), row)
            taken.append(row)
    return None


def first_bad_paper_of(table):
    bad = bad_of(table)
    return bad_paper_of(table, bad[0]) if bad else None


def is_bad_paper_of(table, paper):
    """Point 31: what a bad paper is."""
    if type(paper) is not tuple or len(paper) != 3 or not all(is_lot_below(part, table.width) for part in paper):
        return False
    p, y, z = paper
    joined = joined_of(table)
    if p not in unmade_among(joined) or y not in joined or z not in joined:
        return False
    return within(p, join([y, z])) and not within(p, y) and not within(p, z)


def is_lot_below(value, below):
    if type(value) is not tuple or any(type(number) is not int for number in value):
        return False
    return value == lot(value) and all(0 <= number < below for number in value)


def spread_at(joined, x, y, z):
    """True if both spreads over either for the triple."""
    return both_of(joined, [x, join([y, z])]) == join([both_of(joined, [x, y]), both_of(joined, [x, z])])


def turned_spread_at(joined, x, y, z):
    """True if either spreads over both for the triple."""
    return join([x, both_of(joined, [y, z])]) == both_of(joined, [join([x, y]), join([x, z])])


def table_of(height, width, is_yes):
    """The table of that size with the cells that a function of row and column tells."""
    return Table([[is_yes(i, k) for k in range(width)] for i in range(height)], width=width)


def then_of(first, second):
    """Point 20: a cell is yes if it has a middle."""
    one, other = first.rows, second.rows
    return table_of(first.height, second.width,
                    lambda i, j: any(one[i][k] and other[k][j] for k in range(first.width)))


def back_of(table, other):
    return then_of(then_of(table, other), table)


def inside_of(one, other):
    return all(b or not a for first, second in zip(one.rows, other.rows) for a, b in zip(first, second))


def crosswise_of(table, other):
    return (other.height, other.width) == (table.width, table.height)


def greatest_under_of(table):
    """Point 35, cell by cell."""
    rows = rows_of(table)
    return table_of(table.width, table.height,
                    lambda k, i: all(within(rows[i], row) for row in rows if k in row))


def count_yes(table):
    return sum(row.count(True) for row in table.rows)


@remembered
def maker_lots_of(table):
    """For each joined row the lot of the numbers of its makers."""
    unmade = unmade_of(table)
    return {row: tuple(i for i, one in enumerate(unmade) if within(one, row)) for row in joined_of(table)}


def is_placing_told(value, many):
    return type(value) is tuple and all(type(item) is int for item in value) and sorted(value) == list(range(many))


def is_match_of(first, second, value):
    """Point 44 word by word."""
    many = len(unmade_of(first))
    if len(unmade_of(second)) != many or not is_placing_told(value, many):
        return False
    lots, targets = maker_lots_of(first).values(), set(maker_lots_of(second).values())
    return len(lots) == len(targets) and all(lot(value[i] for i in one) in targets for one in lots)


def carried_of(first, second, match, row):
    """The joined row of second whose makers are those to which the match sends the makers of a joined row."""
    wanted = lot(match[i] for i in maker_lots_of(first)[row])
    return [one for one, makers in maker_lots_of(second).items() if makers == wanted][0]


def is_kin_paper_of(first, second, paper):
    """Point 43: the sizes and the three equations."""
    if type(paper) is not tuple or len(paper) != 4 or not all(isinstance(part, Table) for part in paper):
        return False
    y, z, w, v = paper
    if (y.height, y.width, z.height, z.width) != (first.width, second.width, second.width, first.width):
        return False
    if (w.height, w.width, v.height, v.width) != (second.height, first.height, first.height, second.height):
        return False
    reached = then_of(first, y)
    return then_of(reached, z) == first and then_of(w, reached) == second and then_of(v, second) == reached


def fault_of(table):
    """Point 50: the first thing, pair or triple that keeps a square table from being an order."""
    rows, things = table.rows, range(table.height)
    faults = [("self", i) for i in things if not rows[i][i]]
    faults += [("both", i, j) for i in things for j in things if i < j and rows[i][j] and rows[j][i]]
    faults += [("through", i, j, k) for i, j, k in itertools.product(things, repeat=3)
               if rows[i][j] and rows[j][k] and not rows[i][k]]
    return faults[0] if faults else None


def is_likeness_of(order, other, value):
    """Point 55 word by word."""
    many, cells, others = order.height, order.rows, other.rows
    if other.height != many or not is_placing_told(value, many):
        return False
    return all(cells[i][j] == others[value[i]][value[j]] for i in range(many) for j in range(many))


def likenesses_of(order, other):
    """All likenesses: itertools.permutations goes by the order of tuples."""
    return [one for one in itertools.permutations(range(order.height)) if is_likeness_of(order, other, one)]


def kin_order_of(table):
    """The cells of point 53, whether or not a table leads back."""
    rows = unmade_of(table)
    return table_of(len(rows), len(rows), lambda i, j: within(rows[j], rows[i]))


def order_paper_of(table):
    """The order paper of point 53."""
    unmade, rows = unmade_of(table), rows_of(table)
    own = [own_of(table, row) for row in unmade]
    return (
        table_of(table.width, len(unmade), lambda k, j: k in own[j]),
        Table.of_lots(unmade, table.width),
        table_of(len(unmade), table.height, lambda j, i: i == rows.index(unmade[j])),
        table_of(table.height, len(unmade), lambda i, j: within(unmade[j], rows[i])),
    )


def same_joins_of(first, second):
    """Point 56: equal sizes, joined rows and joined columns."""
    if (first.height, first.width) != (second.height, second.width) or joined_of(first) != joined_of(second):
        return False
    return joins_of(columns_of(first)) == joins_of(columns_of(second))


def class_table_of(table, placing):
    """The table of the class that a likeness of the kin order gives."""
    unmade = unmade_of(table)
    lots = [join([unmade[placing[j]] for j, one in enumerate(unmade) if within(one, row)]) for row in rows_of(table)]
    return table_of(table.height, table.width, lambda i, k: k in lots[i])


def yes_cells(table):
    return [(i, k) for i in range(table.height) for k in range(table.width) if table.rows[i][k]]


def is_full_block_of(table, value):
    """Point 61: a pair of lots that are not empty, with yes in each cell."""
    if type(value) is not tuple or len(value) != 2 or () in value:
        return False
    if not is_lot_below(value[0], table.height) or not is_lot_below(value[1], table.width):
        return False
    return all(table.rows[i][k] for i in value[0] for k in value[1])


@remembered
def full_blocks_of(table):
    """All full blocks, in the order of point 61."""
    lots = [lot_order(lot(one) for count in range(side + 1) for one in itertools.combinations(range(side), count))
            for side in (table.height, table.width)]
    return [(rows, columns) for columns in lots[1] for rows in lots[0] if is_full_block_of(table, (rows, columns))]


@remembered
def greatest_blocks_of(table):
    """The full blocks that no other full block holds."""
    blocks = full_blocks_of(table)
    return [one for one in blocks
            if not any(other != one and within(one[0], other[0]) and within(one[1], other[1]) for other in blocks)]


def covers_of(table, blocks):
    """True if each yes cell is in one of the blocks."""
    return all(any(i in rows and k in columns for rows, columns in blocks) for i, k in yes_cells(table))


def is_cover_of(table, value):
    if type(value) not in (list, tuple) or not all(is_full_block_of(table, block) for block in value):
        return False
    return covers_of(table, value)


def fewest_of(table):
    """The least count of blocks of a cover: some block has the first cell that is left, whichever that is."""
    blocks = greatest_blocks_of(table)

    def needed(cells):
        if not cells:
            return 0
        i, k = cells[0]
        lefts = [[(a, b) for a, b in cells if a not in rows or b not in columns]
                 for rows, columns in blocks if i in rows and k in columns]
        return 1 + min(needed(left) for left in lefts)
    return needed(yes_cells(table))


def are_apart_of(table, value):
    """Point 64: yes cells, none of them twice, and each two apart."""
    if type(value) not in (list, tuple):
        return False
    for cell in value:
        if type(cell) is not tuple or len(cell) != 2 or any(type(number) is not int for number in cell):
            return False
        if cell not in yes_cells(table):
            return False
    rows = table.rows
    pairs = list(itertools.combinations(value, 2))
    return all(one != other and (not rows[one[0]][other[1]] or not rows[other[0]][one[1]]) for one, other in pairs)


def most_apart_of(table):
    """The greatest count of apart cells, with every list of cells made longer as long as it can be."""
    found, many = [()], 0
    while True:
        longer = [one + (cell,) for one in found for cell in yes_cells(table)
                  if cell > max(one, default=(-1, -1)) and are_apart_of(table, one + (cell,))]
        if not longer:
            return many
        found, many = longer, many + 1


def is_rank_paper_of(table, value):
    """Point 65: a number, as many full blocks that cover, and as many cells that are apart."""
    if type(value) is not tuple or len(value) != 3 or type(value[0]) is not int:
        return False
    number, blocks, cells = value
    if type(blocks) is not tuple or type(cells) is not tuple or [len(blocks), len(cells)] != [number, number]:
        return False
    return is_cover_of(table, blocks) and are_apart_of(table, cells)


def rank_paper_of(table):
    """The rank paper of the prime blocks and the apart cells."""
    rows, unmade = rows_of(table), unmade_of(table)
    blocks = tuple((lot(i for i, row in enumerate(rows) if within(one, row)), one) for one in unmade)
    cells = tuple((rows.index(one), min(own_of(table, one))) for one in unmade)
    return (len(unmade), blocks, cells)


def word_told(table):
    """Point 15: the word of a table."""
    rows = "/".join("".join("x" if cell else "." for cell in row) for row in table.rows)
    return f"{table.height}:{table.width}:{rows}"


def is_word_told(text):
    """True if the text is the word of some table."""
    told = re.fullmatch(r"([0-6]):([0-6]):([x./]*)", text)
    if not told:
        return False
    height, width = int(told[1]), int(told[2])
    # No rows are written like one row without columns.
    return [len(row) for row in told[3].split("/")] == [width] * height or (height == 0 and told[3] == "")


def lot_told(lot):
    """Point 16: the text of a lot."""
    return ",".join(str(number) for number in lot) or "-"


def verdict_told(table):
    """The verdict of the program, as point 66 tells its parts."""
    if bad_of(table):
        return ("bad", first_bad_paper_of(table))
    return ("back", greatest_under_of(table), kin_order_of(table), order_paper_of(table), rank_paper_of(table))


def is_name_told(value):
    """Point 68: one to eight letters a to z."""
    return type(value) is str and 1 <= len(value) <= 8 and all(sign in "abcdefghijklmnopqrstuvwxyz" for sign in value)


def is_verdict_of(table, value):
    """Point 66: what a verdict is."""
    if type(value) is not tuple or len(value) not in (2, 5) or type(value[0]) is not str:
        return False
    if len(value) == 2:
        return value[0] == "bad" and is_bad_paper_of(table, value[1])
    kind, way, order, papers, ranks = value
    if kind != "back" or not isinstance(way, Table) or not crosswise_of(table, way) or back_of(table, way) != table:
        return False
    if not isinstance(order, Table) or order.height != order.width or fault_of(order) is not None:
        return False
    return is_kin_paper_of(table, order, papers) and is_rank_paper_of(table, ranks) and ranks[0] == order.height


def orders_below(most):
    """All orders of up to that many things."""
    found = []
    for many in range(most + 1):
        pairs = [(i, j) for i in range(many) for j in range(many) if i != j]
        for cells in itertools.product([False, True], repeat=len(pairs)):
            told = dict(zip(pairs, cells))
            if not any(yes and told[j, i] for (i, j), yes in told.items()):
                table = table_of(many, many, lambda i, j: i == j or told[i, j])
                if fault_of(table) is None:
                    found.append(table)
    return found


def some_orders(each=8, seed=6):
    """Some orders of five and six things, the same ones in each run."""
    source = random.Random(seed)
    found = []
    for many, share, _ in itertools.product([5, 6], [15, 40, 70], range(each)):
        names = source.sample(range(many), many)
        sets = [{k for k in range(5) if source.randrange(100) < share} for _ in range(many)]
        # Unlike sets within one another are an order; equal ones are told apart by their names.
        found.append(table_of(many, many, lambda i, j: i == j or sets[names[j]] < sets[names[i]]))
    return found
