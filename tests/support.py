"""What the tests share: odd values, sample tables, and checks of refusals and of results."""

import inspect
import itertools
import random
import unittest

from greatestback.errors import GreatestbackError
from greatestback.tables import Table

SIDE = 6
HUGE = 10 ** 5000

# One value of each kind that a caller may pass where an error is stated: no value among them is
# good everywhere, and each argument is bad for most of them.
ODD = [
    None, True, False, 0, 1, 5, 6, 7, 64, 65, 71, -1, -6, HUGE, -HUGE,
    "", "0", "x", "set", "turn", "0,1", "-", "1:1:x", "a\nb",
    Table([]), Table([[True]]), Table.filled(6, 6),
    [], [0], [0, 1], [1, 0], [()], [None], [[True]], [[0, 1], [1]], [Table([])],
    (), (0,), (5,), (6,), (7,), (-1,), (0, 1), (1, 0), (0, 0), (0, 5), (0, 6), (0, HUGE),
    (False,), (True,), (0, True), (False, 1), (False, True), ("0",), ("0", "1"), (None,), (None, 0),
    ((),), ((0,),), ([0],), ((0,), (1,)), ([0], [1]), (Table([]),), (0, Table([])),
    (0, 1, 2), (2, 1, 0), (0, 1, 2, 3, 4, 5), (0, 1, 2, 3, 4, 5, 6), tuple(range(70)), list(range(70)),
    [[[[[0]]]]], (((((0,),),),),), [([(0,)],)],
    ("set",), ("set", 0, 0, True), ["set", 0, 0, True], ("turn",), ["turn"], ("turn", 0),
    ("bad", ((0,), (0,), (0,))), ("drop row", 0), ("add row", 0, (0,)),
]


def same_kinds(one, other):
    """True if the values are equal and of the same kinds throughout."""
    if type(one) is not type(other):
        return False
    if isinstance(one, (list, tuple)):
        return len(one) == len(other) and all(same_kinds(a, b) for a, b in zip(one, other))
    if isinstance(one, dict):
        return list(one) == list(other) and all(same_kinds(one[key], other[key]) for key in one)
    return one == other


def kept(value):
    """A copy that later changes of the lists in value do not reach; tables are never changed."""
    if isinstance(value, (list, tuple)):
        return type(value)(kept(item) for item in value)
    return value


def spoil(value):
    """Change each list in value, the inner ones first."""
    if isinstance(value, (list, tuple)):
        for item in value:
            spoil(item)
    if isinstance(value, list):
        value.append("spoilt")
        value.reverse()


def is_lot(value, below):
    """The words of point 10, written again."""
    if type(value) is not tuple or any(type(number) is not int for number in value):
        return False
    return all(0 <= number < below for number in value) and all(a < b for a, b in zip(value, value[1:]))


def is_int(value, least, most):
    return type(value) is int and least <= value <= most


def lot_order(lots):
    return sorted(set(lots), key=lambda lot: (len(lot), lot))


def lots_below(below):
    """All lots below a number, in lot order."""
    return [lot for count in range(below + 1) for lot in itertools.combinations(range(below), count)]


def tables_of_size(height, width):
    """All tables of a size."""
    for cells in itertools.product([False, True], repeat=height * width):
        yield Table([list(cells[i * width:(i + 1) * width]) for i in range(height)], width=width)


def sizes():
    return [(height, width) for height in range(SIDE + 1) for width in range(SIDE + 1)]


def small_tables(cells):
    """All tables with at most that many cells."""
    for height, width in sizes():
        if height * width <= cells:
            yield from tables_of_size(height, width)


def sample_tables(each=2, seed=1):
    """Some tables of every size, the same ones in each run, among them the empty and the full one."""
    source = random.Random(seed)
    for height, width in sizes():
        yield Table.filled(height, width)
        yield Table.filled(height, width, yes=True)
        for _ in range(each):
            share = source.choice([20, 50, 80])
            yield Table([[source.randrange(100) < share for _ in range(width)] for _ in range(height)], width=width)


def row_sets(table):
    """The rows as sets of column numbers, from the rows alone."""
    return [{k for k in range(table.width) if row[k]} for row in table.rows]


def near(value):
    """Values close to a value: a part changed, exchanged, left out, put twice, or of another kind."""
    if isinstance(value, bool):
        return [not value, int(value), None]
    if isinstance(value, int):
        return [value + 1, value - 1, -value - 1, value + HUGE, bool(value), str(value), (value,), [value], None]
    if isinstance(value, str):
        return [value + " ", value.upper(), value[:-1], "", "other", (value,), None]
    if isinstance(value, Table):
        return tables_near(value)
    return near_tuple(value)


def tables_near(table):
    """Tables with one cell changed, turned over, with a row more, and what only looks like the table."""
    cells = list(itertools.product(range(table.height), range(table.width)))
    changed = []
    for i, k in cells:
        rows = table.rows
        rows[i][k] = not rows[i][k]
        changed.append(Table(rows, width=table.width))
    turned = Table(table.columns, width=table.height)
    taller = Table((table.rows + [[False] * table.width])[:SIDE], width=table.width)
    return changed + [turned, taller, Table([]), table.rows, tuple(table), str(table), table.row_lots, None]


def near_tuple(value):
    places = range(len(value))
    found = [list(value), (value,), [value], value + (None,), value + value[:1], value + value[-1:], value[::-1], None]
    for place in places:
        found.append(value[:place] + value[place + 1:])
        found += [value[:place] + (one,) + value[place + 1:] for one in near(value[place])]
        others = [other for other in value if not same_kinds(other, value[place])]
        found += [value[:place] + (other,) + value[place + 1:] for other in others]
    for one, other in itertools.combinations(places, 2):
        items = list(value)
        items[one], items[other] = items[other], items[one]
        found.append(tuple(items))
    return found


class Walk:
    """What an engine must hold: every state is kept, with the place of the one that holds now."""

    def __init__(self):
        self.states, self.at = [{}], 0

    def held(self):
        return self.states[self.at]

    def become(self, tables):
        self.states = self.states[:self.at + 1] + [tables]
        self.at += 1

    def step(self, by):
        if 0 <= self.at + by < len(self.states):
            self.at += by
            return True
        return False


def refusal(function, *args):
    """The class of the error that a call raises, or None."""
    try:
        function(*args)
    except GreatestbackError as error:
        return type(error)
    return None


class Case(unittest.TestCase):

    def same(self, one, other):
        """Equal, and of the same kinds throughout."""
        self.assertTrue(same_kinds(one, other), f"{short(one)} is not {short(other)}")

    def refused(self, error, attributes, function, *args, **named):
        """The call raises that very class with those attributes, and changes nothing that is passed."""
        before = kept(list(args)), {name: kept(value) for name, value in named.items()}
        try:
            result = function(*args, **named)
        except GreatestbackError as found:
            told = {name: getattr(found, name) for name in attributes}
            self.assertIs(type(found), error, f"{short(args)} {short(named)}")
            self.same(told, attributes)
        else:
            self.fail(f"{function} {short(args)} {short(named)} gave {short(result)}")
        self.same((list(args), dict(named)), before)

    def refused_every_way(self, error, attributes, function, *args):
        """As refused, by position and by name in the contrary sequence."""
        self.refused(error, attributes, function, *args)
        self.refused(error, attributes, function, **backwards(function, args))

    def judges(self, told, function, args, values):
        """The judge says of each value what told says of it, the value being its last argument."""
        for value in values:
            before = kept(value)
            self.assertIs(function(*args, value), told(*args, value), f"{function} {short(args)} {short(value)}")
            self.same(value, before)

    def answers(self, expected, function, *args):
        """The call gives the value, by position and by name, each time anew, and changes nothing passed."""
        before = kept(list(args))
        first = function(*args)
        self.same(first, expected)
        wanted = kept(first)
        second = function(**backwards(function, args))
        self.same(second, wanted)
        spoil(first)
        self.same(function(*args), wanted)
        self.same(list(args), before)


def backwards(function, args):
    """The arguments by name, the last one first."""
    names = [name for name in inspect.signature(function).parameters]
    return dict(reversed(list(zip(names, args))))


def short(value):
    """The text of a value; numbers of thousands of digits have none."""
    try:
        return repr(value)[:300]
    except ValueError:
        return "a value with a huge number"
