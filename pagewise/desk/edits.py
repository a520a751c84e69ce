"""Edits of a desk: what stands on it before one and behind it."""

from pagewise.base.rows import is_integer, is_name, is_row
from pagewise.errors import InvalidEdit
from pagewise.layers.counts import place_in
from pagewise.queries.queries import Query
from pagewise.tables.tables import MAX_ROWS

MAX_WIDTH = 10


class Stock:
    """What stands on a desk at some time. It never changes, so a desk can go back to it."""

    def __init__(self, widths, contents, queries):
        self.widths = widths
        self.contents = contents
        self.queries = queries


def behind_edit(stock, edit):
    """Return what stands on a desk behind an edit, or raise InvalidEdit if it is none or is not possible."""
    if not isinstance(edit, tuple) or not edit or not isinstance(edit[0], str) or edit[0] not in SIZES:
        raise InvalidEdit("not an edit")
    if len(edit) != SIZES[edit[0]] or not is_name(edit[1]):
        raise InvalidEdit("not an edit")
    action = ACTIONS[edit[0]]
    behind = action(stock, edit)
    if behind is None:
        raise InvalidEdit("this edit is not possible")
    return behind


def has_name(stock, name):
    """Return whether a table or a view has this name."""
    return name in stock.widths or name in stock.queries


def is_view(stock, value):
    """Return whether the value is a query whose atoms are tables, with as many columns as these are wide."""
    if not isinstance(value, Query):
        return False
    return all([stock.widths.get(name) == len(own) for name, own in value.atoms.items()])


def with_table(stock, edit):
    """Return the stock with a new table, or None."""
    _, name, width = edit
    if has_name(stock, name) or not is_integer(width) or not 1 <= width <= MAX_WIDTH:
        return None
    return Stock({**stock.widths, name: width}, {**stock.contents, name: ()}, stock.queries)


def with_row(stock, edit):
    """Return the stock with a row in a table, or None."""
    _, name, row = edit
    if name not in stock.widths or not is_row(stock.widths[name], row):
        return None
    rows = stock.contents[name]
    at = place_in(rows, row)
    if rows[at:at + 1] == (row,):
        return stock
    if len(rows) >= MAX_ROWS:
        return None
    return Stock(stock.widths, {**stock.contents, name: rows[:at] + (row,) + rows[at:]}, stock.queries)


def without_row(stock, edit):
    """Return the stock without a row in a table, or None."""
    _, name, row = edit
    if name not in stock.widths or not is_row(stock.widths[name], row):
        return None
    rows = tuple([one for one in stock.contents[name] if one != row])
    return Stock(stock.widths, {**stock.contents, name: rows}, stock.queries)


def with_view(stock, edit):
    """Return the stock with a view, or None."""
    _, name, query = edit
    if name in stock.widths or not is_view(stock, query):
        return None
    return Stock(stock.widths, stock.contents, {**stock.queries, name: query})


def without_name(stock, edit):
    """Return the stock without a table or a view, or None."""
    _, name = edit
    # The atoms of views are tables, so a view can always go.
    if not has_name(stock, name) or any([name in query.atoms for query in stock.queries.values()]):
        return None
    return Stock(cleared(stock.widths, name), cleared(stock.contents, name), cleared(stock.queries, name))


def with_other_name(stock, edit):
    """Return the stock in which a table or a view has another name, or None."""
    _, name, other = edit
    if not has_name(stock, name) or not is_name(other) or has_name(stock, other):
        return None
    queries = {view: with_atom_renamed(query, name, other) for view, query in stock.queries.items()}
    return Stock(renamed_key(stock.widths, name, other), renamed_key(stock.contents, name, other),
                 renamed_key(queries, name, other))


def with_atom_renamed(query, name, other):
    """Return the query in which the atom with this name, if there is one, has the other name."""
    return Query.of(query.shown, renamed_key(query.atoms, name, other), down=query.down)


def renamed_key(named, name, other):
    """Return the dict in which the value with this name, if there is one, has the other name."""
    return {other if one == name else one: worth for one, worth in named.items()}


def cleared(named, name):
    """Return the dict without this name."""
    return {one: worth for one, worth in named.items() if one != name}


SIZES = {"table": 3, "put": 3, "drop": 3, "view": 3, "forget": 2, "rename": 3}
ACTIONS = {"table": with_table, "put": with_row, "drop": without_row, "view": with_view, "forget": without_name,
           "rename": with_other_name}
