"""Products of relations, and their translation to tables of a query with a trio or a bridge."""

from pagewise.base.rows import is_ascending
from pagewise.errors import InvalidOperation, InvalidRow
from pagewise.shapes.witnesses import is_witness
from pagewise.tables.answers import grouped
from pagewise.tables.tables import are_rows

MAX_INPUT = 100


def product(first, second):
    """Return the product of two relations."""
    check_relations((first, second))
    ends = grouped(second, [0], [1])
    return tuple(sorted({(one, end[0]) for one, middle in first for end in ends.get((middle,), [])}))


def product_tables(query, witness, first, second):
    """Return the tables of the query that a trio or a bridge and two relations make."""
    check_witness(query, witness, ("trio", "bridge"))
    check_relations((first, second))
    roles = roles_of(witness)
    return {name: role_rows(own, roles, first, second) for name, own in query.atoms.items()}


def product_by(query, witness, first, second, server):
    """Return the pairs for which the server tells that answers begin with their values."""
    tables = product_tables(query, witness, first, second)
    roles = roles_of(witness)
    pairs = []
    for one in integers_at(first, 0):
        for other in integers_at(second, 1):
            # The server gets a dict of its own, so it cannot change the next one.
            if server(query, dict(tables), told_values(query, roles, {"a": one, "c": other})) > 0:
                pairs.append((one, other))
    return tuple(pairs)


def is_input(size, value):
    """Return whether the value is an ascending tuple of at most 100 tuples of so many integers."""
    return are_rows(size, value) and len(value) <= MAX_INPUT and is_ascending(value)


def check_relations(relations):
    """Raise InvalidRow if one of the values is not a relation."""
    if not all([is_input(2, relation) for relation in relations]):
        raise InvalidRow("not an ascending tuple of pairs of integers")


def check_witness(query, witness, words):
    """Raise an error if the value is not a witness of the query that begins with one of the words."""
    if not is_witness(query, witness) or witness[0] not in words:
        raise InvalidOperation("not such a witness of the query")


def integers_at(relation, at):
    """Return the integers at a place in the pairs of a relation, ascending."""
    return sorted({pair[at] for pair in relation})


def roles_of(witness):
    """Return a dict from the columns of a trio or a bridge to their roles."""
    word, columns = witness
    roles = {column: "b" for column in columns}
    roles[columns[0]] = "a"
    roles[columns[1] if word == "trio" else columns[-1]] = "c"
    return roles


def role_rows(own, roles, first, second):
    """Return the rows of an atom with its own columns in the product tables."""
    there = [roles[column] for column in own if column in roles]
    return tuple(sorted({row_by_roles(own, roles, numbers) for numbers in told_by_roles(there, first, second)}))


def told_by_roles(there, first, second):
    """Return a list of dicts from roles to integers, one for each row of an atom in which these roles are."""
    # No atom has both a and c, so one relation is enough to tell what goes with either.
    if "a" in there:
        return [{"a": one, "b": middle} for one, middle in first]
    if "c" in there:
        return [{"b": middle, "c": other} for middle, other in second]
    if "b" in there:
        behind = integers_at(second, 0)
        return [{"b": middle} for middle in integers_at(first, 1) if middle in behind]
    return [{}]


def row_by_roles(columns, roles, numbers):
    """Return the integers that the roles of the columns have, and 0 for columns without a role."""
    return tuple([numbers[roles[column]] if column in roles else 0 for column in columns])


def told_values(query, roles, numbers):
    """Return the values of the shown columns up to the later one of those with the roles a and c."""
    last = max([at for at, column in enumerate(query.shown) if roles.get(column) in numbers])
    return tuple([numbers.get(roles.get(column), 0) for column in query.shown[:last + 1]])
