"""Commands of a shell: which lines are some, and what they do at a desk."""

from pagewise.base.rows import is_name
from pagewise.errors import InvalidCommand, InvalidTables, UnknownName
from pagewise.text.formats import format_paper, format_query, parse_query
from pagewise.text.selects import Select
from pagewise.text.words import integer_in, integers_in, row_text

DONE = "ok"
NOTHING = "-"


def answer_to(desk, line):
    """Do a command at the desk, and return its answer."""
    word, passed = command_in(line)
    if word in EDITS:
        desk.do((word, *passed))
        return DONE
    action = ACTIONS[word]
    return action(desk, *passed)


def command_in(line):
    """Return the first word of a command, and the list of what the words behind it stand for."""
    words = line.split(" ") if isinstance(line, str) else [""]
    if "" in words or words[0] not in FORMS:
        raise InvalidCommand("not a command")
    passed = []
    left = words[1:]
    for kind in FORMS[words[0]]:
        reader = READERS[kind]
        worth, left = reader(left)
        passed.append(worth)
    if None in passed or left:
        raise InvalidCommand("these words do not stand behind such a word")
    return words[0], passed


def name_ahead(words):
    """Return the name with which the words begin, or None, and the words behind it."""
    return (words[0] if words and is_name(words[0]) else None), words[1:]


def number_ahead(words):
    """Return the integer of at least 0 with which the words begin, or None, and the words behind it."""
    number = integer_in(words[0]) if words else None
    return (None if number is None or number < 0 else number), words[1:]


def integers_ahead(words):
    """Return the integers that all of the words are, or None, and no words."""
    return integers_in(words), []


def text_ahead(words):
    """Return the text that the words make, or None if there is no word, and no words."""
    return (" ".join(words) if words else None), []


def do_view(desk, name, text):
    """Put a view on the desk."""
    desk.do(("view", name, parse_query(text)))
    return DONE


def do_undo(desk, many):
    """Undo the last steps."""
    desk.undo(many=many)
    return DONE


def do_redo(desk, many):
    """Do the last undone steps again."""
    desk.redo(many=many)
    return DONE


def tell_names(desk):
    """Return all names on the desk."""
    return " ".join(desk.names) or NOTHING


def tell_name(desk, name):
    """Return the rows of a table, or the query of a view."""
    tables, views = desk.tables, desk.views
    if name in tables:
        return rows_text(tables[name])
    if name not in views:
        raise UnknownName(name)
    return format_query(views[name])


def tell_count(desk, name):
    """Return the number of answers of a view."""
    return str(desk.total_of(name))


def tell_paper(desk, name):
    """Return an order paper of a view."""
    paper = desk.paper(name)
    return format_paper(desk.views[name], paper)


def tell_row(desk, name, position):
    """Return the answer of a view at a position."""
    return row_text(desk.pages(name)[position])


def tell_place(desk, name, row):
    """Return the number of answers of a view that stand before a row."""
    return str(desk.pages(name).position_of(row))


def tell_starts(desk, name, numbers):
    """Return the number of answers of a view that begin with some numbers."""
    return str(desk.pages(name).starts(numbers))


def tell_page(desk, name, number, size):
    """Return the answers of a view on a page."""
    return rows_text(desk.pages(name).page(number, size=size))


def tell_select(desk, text):
    """Return the rows that a select gives on the tables of the desk."""
    select = Select.read(f"select {text}")
    atoms, tables = select.written.atoms, desk.tables
    # Atoms are ascending, so the smallest one that is no table is found first.
    widths = {name: desk.width(name) for name in atoms}
    if not all([widths[name] == len(own) for name, own in atoms.items()]):
        raise InvalidTables("an atom has not as many columns as its table is wide")
    return rows_text(select({name: tables[name] for name in atoms}))


def rows_text(rows):
    """Return the text of rows in an answer."""
    return "; ".join([row_text(row) for row in rows]) if rows else NOTHING


READERS = {"NAME": name_ahead, "NUMBER": number_ahead, "INTEGERS": integers_ahead, "TEXT": text_ahead}
FORMS = {
    "table": ("NAME", "NUMBER"), "put": ("NAME", "INTEGERS"), "drop": ("NAME", "INTEGERS"), "view": ("NAME", "TEXT"),
    "forget": ("NAME",), "rename": ("NAME", "NAME"), "undo": ("NUMBER",), "redo": ("NUMBER",), "names": (),
    "show": ("NAME",), "count": ("NAME",), "paper": ("NAME",), "row": ("NAME", "NUMBER"), "place": ("NAME", "INTEGERS"),
    "starts": ("NAME", "INTEGERS"), "page": ("NAME", "NUMBER", "NUMBER"), "select": ("TEXT",),
}
# The words of these commands are the parts of an edit of the desk.
EDITS = ("table", "put", "drop", "forget", "rename")
ACTIONS = {
    "view": do_view, "undo": do_undo, "redo": do_redo, "names": tell_names, "show": tell_name, "count": tell_count,
    "paper": tell_paper, "row": tell_row, "place": tell_place, "starts": tell_starts, "page": tell_page,
    "select": tell_select,
}
