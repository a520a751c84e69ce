"""The forest that a good order makes of the columns."""

from pagewise.base.rows import is_integer
from pagewise.errors import InvalidNumber
from pagewise.orders.good import check_order, earlier_neighbours


def parents(query, order):
    """Return a dict from all columns to their parent, or to None."""
    check_order(query, order)
    earlier = earlier_neighbours(query, order)
    return {column: near[-1] if near else None for column, near in earlier.items()}


def children(query, order):
    """Return a dict from all columns to the tuple of their children, in the order."""
    above = parents(query, order)
    return {column: tuple([other for other in order if above[other] == column]) for column in query.columns}


def ends(query, order):
    """Return a dict from all columns to the ascending tuple of the atoms whose last column they are."""
    check_order(query, order)
    last = {name: max([order.index(column) for column in own]) for name, own in query.atoms.items()}
    return {column: tuple([name for name, at in last.items() if order[at] == column]) for column in query.columns}


def layer_columns(query, order):
    """Return a dict from all columns to their layer columns."""
    check_order(query, order)
    return {column: (*near, column) for column, near in earlier_neighbours(query, order).items()}


def open_columns(query, order, many):
    """Return the open columns behind the first `many` columns of the order."""
    above = parents(query, order)
    if not is_integer(many) or not 0 <= many <= len(order):
        raise InvalidNumber(many)
    told = order[:many]
    return tuple([column for column in order[many:] if above[column] is None or above[column] in told])
