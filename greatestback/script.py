"""Scripts: texts whose lines are commands to an engine."""

from greatestback.checks import check_many
from greatestback.engine import Engine
from greatestback.errors import BadName, BadText, NoFit, NoName, NoWayBack, TooMany, UnlikeSizes
from greatestback.lots import SIDE
from greatestback.tabletext import format_lot, format_word, is_digit, parse_word

SCRIPT_LIMIT = 60

# What each word behind the word of the command must be; a name has no form here.
FORMS = {
    "put": ("name", "table"),
    "drop": ("name",),
    "set": ("name", "digit", "digit", "answer"),
    "turn": ("name",),
    "then": ("name", "name", "name"),
    "undo": (),
    "redo": (),
    "show": ("name",),
    "names": (),
    "way": ("name",),
    "order": ("name",),
    "rank": ("name",),
    "kin": ("name", "name"),
    "solve": ("name", "name"),
}


def _put(engine, name, word):
    engine.store(name, parse_word(word))
    return "done"


def _drop(engine, name):
    engine.drop(name)
    return "done"


def _set(engine, name, row, column, answer):
    engine.change(name, ("set", int(row), int(column), answer == "yes"))
    return "done"


def _turn(engine, name):
    engine.change(name, ("turn",))
    return "done"


def _then(engine, name, left, right):
    engine.compose(name, left, right)
    return "done"


def _undo(engine):
    return "done" if engine.undo() else "nothing"


def _redo(engine):
    return "done" if engine.redo() else "nothing"


def _show(engine, name):
    return format_word(engine.fetch(name))


def _names(engine):
    return " ".join(engine.names) if engine.names else "nothing"


def _way(engine, name):
    kind, told = engine.way_of(name)
    if kind == "back":
        return f"back {format_word(told)}"
    return " ".join(["bad"] + [format_lot(lot) for lot in told])


def _order(engine, name):
    return format_word(engine.order_of(name))


def _rank(engine, name):
    row_rank, column_rank = engine.ranks_of(name)
    return f"ranks {row_rank} {column_rank}"


def _kin(engine, left, right):
    return "kin" if engine.kin_of(left, right) else "unlike"


def _solve(engine, left, right):
    way, cell = engine.solve_of(left, right)
    return f"solved {format_word(way)}" if cell is None else f"barred {cell[0]} {cell[1]}"


ACTIONS = {
    "put": _put,
    "drop": _drop,
    "set": _set,
    "turn": _turn,
    "then": _then,
    "undo": _undo,
    "redo": _redo,
    "show": _show,
    "names": _names,
    "way": _way,
    "order": _order,
    "rank": _rank,
    "kin": _kin,
    "solve": _solve,
}


def parse_command(line):
    """The list of the words of the line, or the empty list if it is empty."""
    if line == "":
        return []
    words = line.split(" ")
    forms = FORMS.get(words[0])
    if forms is None or len(words) != len(forms) + 1 or "" in words:
        raise BadText(1)
    for word, form in zip(words[1:], forms):
        _check_form(word, form)
    return words


def _check_form(word, form):
    """Raise BadText(1) if the word does not have the form."""
    if form == "table":
        parse_word(word)
    if form == "digit" and not is_digit(word, SIDE + 1):
        raise BadText(1)
    if form == "answer" and word not in ("yes", "no"):
        raise BadText(1)


def run_line(engine, line):
    """Run one line in the engine and return its answer."""
    try:
        return _answer(engine, parse_command(line))
    except BadText:
        return "refused BadText"
    except BadName:
        return "refused BadName"
    except NoName:
        return "refused NoName"
    except NoFit:
        return "refused NoFit"
    except UnlikeSizes:
        return "refused UnlikeSizes"
    except TooMany:
        return "refused TooMany"
    except NoWayBack:
        return "refused NoWayBack"


def _answer(engine, words):
    if not words:
        return "nothing"
    action = ACTIONS[words[0]]
    rest = words[1:]
    return action(engine, *rest)


def run_script(text):
    """The list of the answers of all lines, run in one engine that begins with no names."""
    lines = text.split("\n")
    check_many(len(lines), SCRIPT_LIMIT)
    engine = Engine()
    return [run_line(engine, line) for line in lines]
