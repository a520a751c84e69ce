"""Solutions and answers, found by making all part rows."""

from pagewise.base.rows import is_row, sorted_rows
from pagewise.errors import TooMany
from pagewise.tables.tables import check_tables

MAX_PART_ROWS = 20000


def solutions(query, tables):
    """Yield all solutions, sorted by the columns in ascending order."""
    for row in solution_rows(query, tables):
        yield dict(zip(query.columns, row))


def answers(query, tables):
    """Yield all answers, sorted."""
    for row in answer_rows(query, tables):
        yield row


def count_answers(query, tables):
    """Return the number of answers."""
    return len(answer_rows(query, tables))


def is_answer(query, tables, value):
    """Return whether the value is an answer."""
    rows = answer_rows(query, tables)
    return is_row(len(query.shown), value) and value in rows


def solution_rows(query, tables):
    """Return the sorted list of all solutions, each as the tuple of its values by ascending columns."""
    check_tables(query, tables)
    columns = ()
    parts = [()]
    for name, own in query.atoms.items():
        parts = joined(columns, parts, own, tables[name])
        columns = columns + tuple([column for column in own if column not in columns])
    places = places_of(query.columns, columns)
    return sorted([picked(part, places) for part in parts])


def answer_rows(query, tables):
    """Return the tuple of all answers, sorted."""
    rows = solution_rows(query, tables)
    places = places_of(query.shown, query.columns)
    down = tuple([at for at, column in enumerate(query.shown) if column in query.down])
    return sorted_rows(tuple([picked(row, places) for row in rows]), down=down)


def joined(columns, parts, own, rows):
    """Return the part rows that go on with the rows of one more atom, which has its own columns."""
    common = [column for column in own if column in columns]
    added = [column for column in own if column not in columns]
    fitting = grouped(rows, places_of(common, own), places_of(added, own))
    places = places_of(common, columns)
    longer = []
    for part in parts:
        ends = fitting.get(picked(part, places), [])
        # Checked at each part row, so that far too many are never made.
        if len(longer) + len(ends) > MAX_PART_ROWS:
            raise TooMany(MAX_PART_ROWS)
        longer.extend([part + end for end in ends])
    return longer


def grouped(rows, places, others):
    """Return a dict from the values at some places to a list of the values at others."""
    found = {}
    for row in rows:
        found.setdefault(picked(row, places), []).append(picked(row, others))
    return found


def places_of(columns, all_columns):
    """Return the places of columns among all columns."""
    return [all_columns.index(column) for column in columns]


def picked(row, places):
    """Return the values of the row at these places."""
    return tuple([row[at] for at in places])
