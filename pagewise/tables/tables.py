"""Tables of a query: a dict from its atoms to their rows."""

from pagewise.base.rows import is_ascending, is_integer, is_row, sorted_rows
from pagewise.errors import InvalidNumber, InvalidTables, TooMany
from pagewise.queries.queries import check_column, check_keys, check_query

MAX_ROWS = 1000


def is_tables(query, value):
    """Return whether the value is tables of the query."""
    check_query(query)
    atoms = query.atoms
    if not isinstance(value, dict) or len(value) != len(atoms):
        return False
    return all([name in value and is_table(len(columns), value[name]) for name, columns in atoms.items()])


def tables_from(query, **rows):
    """Return the tables with these rows of the atoms."""
    return tables_by(query, rows)


def tables_by(query, rows):
    """Return the tables with these rows of the atoms."""
    check_query(query)
    atoms = query.atoms
    check_keys(rows, tuple(atoms))
    if not all([are_rows(len(atoms[name]), rows[name]) for name in rows]):
        raise InvalidTables("an atom does not have such rows")
    tables = {name: sorted_rows(rows.get(name, ())) for name in atoms}
    if any([len(own) > MAX_ROWS for own in tables.values()]):
        raise TooMany(MAX_ROWS)
    return tables


def values_of(query, tables, column):
    """Return the ascending tuple of the integers that every atom with the column has in it."""
    check_tables(query, tables)
    check_column(query, column)
    first, *others = [column_values(columns, tables[name], column)
                      for name, columns in query.atoms.items() if column in columns]
    return tuple(sorted([number for number in first if all([number in other for other in others])]))


def chosen(query, tables, **values):
    """Return the tables with just those rows that have these values in these columns."""
    return chosen_by(query, tables, values)


def chosen_by(query, tables, values):
    """Return the tables with just those rows that have these values in these columns."""
    check_tables(query, tables)
    check_keys(values, query.columns)
    for column in sorted(values):
        if not is_integer(values[column]):
            raise InvalidNumber(values[column])
    return {name: rows_with(columns, tables[name], values) for name, columns in query.atoms.items()}


def check_tables(query, tables):
    """Raise InvalidQuery if the query is none, and InvalidTables if the tables are not tables of it."""
    if not is_tables(query, tables):
        raise InvalidTables("not tables of the query")


def are_rows(size, value):
    """Return whether the value is a tuple of rows with so many integers."""
    return isinstance(value, tuple) and all([is_row(size, row) for row in value])


def is_table(size, value):
    """Return whether the value is what tables have for an atom with so many columns."""
    return are_rows(size, value) and len(value) <= MAX_ROWS and is_ascending(value)


def column_values(columns, rows, column):
    """Return a dict of which the keys are the integers that the rows have in the column."""
    at = columns.index(column)
    return {row[at]: True for row in rows}


def rows_with(columns, rows, values):
    """Return the rows that have the values in all columns that are keys."""
    asked = [(at, values[column]) for at, column in enumerate(columns) if column in values]
    return tuple([row for row in rows if all([row[at] == number for at, number in asked])])
