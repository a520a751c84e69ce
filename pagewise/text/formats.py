"""Texts of queries, rows, tables, good orders, order papers and keys."""

from pagewise.base.rows import MAX_SIZE, are_integers
from pagewise.errors import InvalidKey, InvalidOperation, InvalidQuery, InvalidRow, ParseError, TooMany
from pagewise.keys.keys import is_key
from pagewise.orders.good import check_order, is_good, is_order_paper
from pagewise.queries.queries import Query, check_query
from pagewise.tables.tables import check_tables, is_tables
from pagewise.text.words import row_in, row_text


def format_query(query):
    """Return the text of a query."""
    check_query(query)
    down = query.down
    shown = ", ".join([f"{column} desc" if column in down else column for column in query.shown])
    atoms = ", ".join([f"{name}({', '.join(own)})" for name, own in query.atoms.items()])
    return f"{shown or '-'} from {atoms}"


def parse_query(text):
    """Return the query with this text."""
    check_text(text)
    # Nothing behind the word has a blank on both sides, but a column before it can be called so.
    columns, _, atoms = text.rpartition(" from ")
    shown, down = shown_in(columns)
    try:
        query = Query.of(shown, atoms_in(atoms), down=down)
    except (InvalidQuery, TooMany):
        raise ParseError("not the text of a query") from None
    # A query has one text, so whatever was read too freely shows here.
    if format_query(query) != text:
        raise ParseError("not the text of a query")
    return query


def format_row(row):
    """Return the text of a row."""
    if not are_integers(row) or len(row) > MAX_SIZE:
        raise InvalidRow("not a tuple of at most ten integers")
    return row_text(row)


def parse_row(text):
    """Return the row with this text."""
    check_text(text)
    row = row_in(text)
    if row is None or len(row) > MAX_SIZE:
        raise ParseError("not the text of a row")
    return row


def format_tables(query, tables):
    """Return the text of tables of the query."""
    check_tables(query, tables)
    return "\n".join([f"{name} {row_text(row)}" for name in query.atoms for row in tables[name]])


def parse_tables(query, text):
    """Return the tables of the query with this text."""
    check_query(query)
    check_text(text)
    found = {name: [] for name in query.atoms}
    for line in text.split("\n") if text else []:
        name, _, row = line.partition(" ")
        if name not in found:
            raise ParseError("there is no such atom")
        found[name].append(row_in(row))
    tables = {name: tuple(rows) for name, rows in found.items()}
    # Where the rows are right, the atoms can still stand in another order.
    if not is_tables(query, tables) or format_tables(query, tables) != text:
        raise ParseError("not the text of tables of the query")
    return tables


def format_order(query, order):
    """Return the text of a good order of the query."""
    check_order(query, order)
    return " ".join(order)


def parse_order(query, text):
    """Return the good order of the query with this text."""
    check_query(query)
    check_text(text)
    order = tuple(text.split(" "))
    if not is_good(query, order):
        raise ParseError("not the text of a good order of the query")
    return order


def format_paper(query, paper):
    """Return the text of an order paper of the query."""
    if not is_order_paper(query, paper):
        raise InvalidOperation("not an order paper of the query")
    word, columns = paper
    return f"{word} {' '.join(columns)}"


def parse_paper(query, text):
    """Return the order paper of the query with this text."""
    check_query(query)
    check_text(text)
    word, *columns = text.split(" ")
    paper = (word, tuple(columns))
    if not is_order_paper(query, paper):
        raise ParseError("not the text of an order paper of the query")
    return paper


def format_key(query, key):
    """Return the text of a key of the query."""
    if not is_key(query, key):
        raise InvalidKey("not a key of the query")
    name, given, found = key
    return " ".join([f"{name}:", *given, "->", found])


def parse_key(query, text):
    """Return the key of the query with this text."""
    check_query(query)
    check_text(text)
    words = text.split(" ")
    key = (words[0].removesuffix(":"), tuple(words[1:-2]), words[-1])
    if not is_key(query, key) or format_key(query, key) != text:
        raise ParseError("not the text of a key of the query")
    return key


def check_text(text):
    """Raise ParseError if the value is not a string."""
    if not isinstance(text, str):
        raise ParseError("not a string")


def shown_in(text):
    """Return the shown columns in this part of a text, and those that are sorted down."""
    words = text.split(", ") if text != "-" else []
    shown = tuple([word.removesuffix(" desc") for word in words])
    return shown, tuple([word.removesuffix(" desc") for word in words if word.endswith(" desc")])


def atoms_in(text):
    """Return a dict from what stands before parentheses in this part of a text to the columns in them."""
    atoms = {}
    for part in text.removesuffix(")").split("), "):
        name, _, columns = part.partition("(")
        atoms[name] = tuple(columns.split(", "))
    return atoms
