"""Which columns stand together in atoms, and the ways between columns."""

from pagewise.errors import InvalidOperation
from pagewise.queries.queries import check_column, check_query


def neighbours(query):
    """Return a dict from each column to the ascending tuple of its neighbours."""
    check_query(query)
    atoms = list(query.atoms.values())
    return {column: beside(atoms, column) for column in query.columns}


def home(query, *columns):
    """Return the first atom that has all of these columns, or None."""
    return home_of(query, columns)


def home_of(query, columns):
    """Return the first atom that has all columns of a tuple, or None."""
    check_query(query)
    if not isinstance(columns, tuple):
        raise InvalidOperation("the columns are not a tuple")
    for column in columns:
        check_column(query, column)
    for name, own in query.atoms.items():
        if all([column in own for column in columns]):
            return name
    return None


def parts(query):
    """Return the ascending tuple of the largest sets of connected columns."""
    near = neighbours(query)
    found = []
    for column in query.columns:
        if not any([column in part for part in found]):
            found.append(tuple(sorted(list(distances(near, column)))))
    return tuple(found)


def way(query, first, second):
    """Return the way with the fewest columns, of several ones the smallest, or None."""
    check_query(query)
    check_column(query, first)
    check_column(query, second)
    near = neighbours(query)
    # Distances to the far end let the way be chosen from its beginning on, the least column each time.
    steps = distances(near, second)
    if first not in steps:
        return None
    path = [first]
    while path[-1] != second:
        last = path[-1]
        path.append(min([column for column in near[last] if steps[column] < steps[last]]))
    return tuple(path)


def beside(atoms, column):
    """Return the ascending tuple of the other columns of the atoms that have the column."""
    return tuple(sorted({other for own in atoms if column in own for other in own if other != column}))


def distances(near, start):
    """Return a dict from each column that is connected with the start to the steps between them."""
    steps = {start: 0}
    queue = [start]
    while queue:
        column = queue.pop(0)
        for other in near[column]:
            if other not in steps:
                steps[other] = steps[column] + 1
                queue.append(other)
    return steps


def touching(near, columns):
    """Return the pairs of places at which neighbours stand, by the later and then the earlier place."""
    return [(at, behind) for behind in range(len(columns)) for at in range(behind)
            if columns[at] in near[columns[behind]]]


def links(size):
    """Return the pairs of places beside one another, in the order of `touching`."""
    return [(at - 1, at) for at in range(1, size)]


def is_chain(near, columns):
    """Return whether each of the different columns is a neighbour of the next one, and no others are."""
    return touching(near, columns) == links(len(columns))


def prolonged(near, chains):
    """Return all ways that begin with one of these and have one column more, in the same order."""
    return [(*chain, column) for chain in chains for column in near[chain[-1]] if column not in chain]
