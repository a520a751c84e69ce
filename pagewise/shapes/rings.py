"""Rings and shells: what no sort order of a query can mend."""

from pagewise.base.rows import is_ascending
from pagewise.queries.queries import are_columns, check_query
from pagewise.shapes.neighbours import is_chain, links, neighbours, prolonged, touching

LEAST_RING = 4
LEAST_SHELL = 3


def is_ring(query, value):
    """Return whether the value is the tuple of the columns of a ring, in any form."""
    near = neighbours(query)
    return are_columns(query, value) and is_circle(near, value)


def rings(query):
    """Yield the first forms of all rings, shorter ones first, those of one length ascending."""
    near = neighbours(query)
    chains = [(column,) for column in query.columns]
    while chains:
        # A first form begins with its least column, so no lesser one is needed behind it.
        longer = [columns for columns in prolonged(near, chains) if columns[0] == min(columns)]
        for columns in longer:
            if columns[1] < columns[-1] and is_circle(near, columns):
                yield columns
        chains = [columns for columns in longer if is_chain(near, columns)]


def is_shell(query, value):
    """Return whether the value is the ascending tuple of the columns of a shell."""
    check_query(query)
    atoms = list(query.atoms.values())
    return are_columns(query, value) and is_ascending(value) and is_least_uncovered(atoms, value)


def shells(query):
    """Yield all shells, shorter ones first, those of one length ascending."""
    check_query(query)
    atoms = list(query.atoms.values())
    # Only covered columns are widened: all but one of the columns of a shell are covered.
    covered = [(column,) for column in query.columns]
    while covered:
        wider = [(*columns, column) for columns in covered for column in query.columns if column > columns[-1]]
        for columns in wider:
            if is_least_uncovered(atoms, columns):
                yield columns
        covered = [columns for columns in wider if are_covered(atoms, columns)]


def is_circle(near, columns):
    """Return whether the different columns, in this order, are a ring."""
    size = len(columns)
    if size < LEAST_RING:
        return False
    circle = [*links(size), (0, size - 1)]
    return sorted(touching(near, columns)) == sorted(circle)


def are_covered(atoms, columns):
    """Return whether some atom has all of the columns."""
    return any([all([column in own for column in columns]) for own in atoms])


def is_least_uncovered(atoms, columns):
    """Return whether no atom has all of three or more columns, but for each one some atom all others."""
    if len(columns) < LEAST_SHELL or are_covered(atoms, columns):
        return False
    return all([are_covered(atoms, without(columns, column)) for column in columns])


def without(columns, column):
    """Return the columns without one of them."""
    return tuple([other for other in columns if other != column])
