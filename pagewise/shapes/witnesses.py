"""Bridges and trios, and with rings and shells all witnesses that a query has no good order."""

from pagewise.base.rows import is_ascending
from pagewise.queries.queries import are_columns, check_query
from pagewise.shapes.neighbours import is_chain, neighbours, prolonged, touching
from pagewise.shapes.rings import is_ring, is_shell, rings, shells

LEAST_BRIDGE = 3


def is_bridge(query, value):
    """Return whether the value is the tuple of the columns of a bridge, from either end."""
    near = neighbours(query)
    return are_columns(query, value) and spans(query, value) and is_chain(near, value)


def bridges(query):
    """Yield all bridges from their lesser end, shorter ones first, those of one length ascending."""
    near = neighbours(query)
    chains = [(column,) for column in sorted(query.shown)]
    while chains:
        longer = [columns for columns in prolonged(near, chains) if is_chain(near, columns)]
        for columns in longer:
            if columns[0] < columns[-1] and spans(query, columns):
                yield columns
        # What is shown ends a bridge, so nothing goes on behind it.
        chains = [columns for columns in longer if columns[-1] not in query.shown]


def is_trio(query, value):
    """Return whether the value is the tuple of the columns of a trio."""
    near = neighbours(query)
    return are_columns(query, value) and len(value) == 3 and meets(query.shown, near, value)


def trios(query):
    """Yield all trios, ascending."""
    near = neighbours(query)
    columns = sorted(query.shown)
    triples = [(first, second, third) for first in columns for second in columns for third in columns]
    for triple in triples:
        if meets(query.shown, near, triple):
            yield triple


def witness(query):
    """Return any witness, or None if there is none."""
    for pair in witnesses(query):
        return pair
    return None


def is_witness(query, value):
    """Return whether the value is a witness."""
    check_query(query)
    if not isinstance(value, tuple) or len(value) != 2:
        return False
    word, columns = value
    if word == "ring":
        return is_ring(query, columns)
    if word == "shell":
        return is_shell(query, columns)
    if word == "bridge":
        return is_bridge(query, columns)
    return word == "trio" and is_trio(query, columns)


def witnesses(query):
    """Yield all witnesses, each once: the rings, the shells, the bridges and the trios."""
    for columns in rings(query):
        yield ("ring", columns)
    for columns in shells(query):
        yield ("shell", columns)
    for columns in bridges(query):
        yield ("bridge", columns)
    for columns in trios(query):
        yield ("trio", columns)


def spans(query, columns):
    """Return whether there are three or more columns, of which just the first and the last one are shown."""
    shown = [at for at, column in enumerate(columns) if column in query.shown]
    return len(columns) >= LEAST_BRIDGE and shown == [0, len(columns) - 1]


def meets(shown, near, columns):
    """Return whether three columns are shown in this order, and just the last one is a neighbour of the others."""
    if not all([column in shown for column in columns]):
        return False
    if not is_ascending([shown.index(column) for column in columns]):
        return False
    return touching(near, columns) == [(0, 2), (1, 2)]
