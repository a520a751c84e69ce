"""Good orders: some atom has each column together with all of its earlier neighbours."""

from pagewise.errors import InvalidOrder, Unsorted
from pagewise.queries.queries import are_columns, check_query
from pagewise.shapes.neighbours import home_of, neighbours
from pagewise.shapes.rings import are_covered
from pagewise.shapes.witnesses import is_witness, witness


def is_good(query, value):
    """Return whether the value is a good order."""
    check_query(query)
    if not are_columns(query, value) or len(value) != len(query.columns):
        return False
    return value[:len(query.shown)] == query.shown and are_fitting(query, value)


def homes(query, order):
    """Return a dict from all columns to their homes in a good order."""
    check_order(query, order)
    return {column: home_of(query, (*near, column)) for column, near in earlier_neighbours(query, order).items()}


def good_order(query):
    """Return any good order, or None."""
    check_query(query)
    return continued(query, query.shown, query.columns)


def good_orders(query):
    """Yield all good orders, ascending."""
    check_query(query)
    for order in orders_from(query, query.shown, query.columns):
        yield order


def order_paper(query):
    """Return any order paper: a good order, or a witness that there is none."""
    order = good_order(query)
    return witness(query) if order is None else ("order", order)


def is_order_paper(query, value):
    """Return whether the value is an order paper."""
    if is_witness(query, value):
        return True
    return isinstance(value, tuple) and len(value) == 2 and value[0] == "order" and is_good(query, value[1])


def check_order(query, order):
    """Raise InvalidQuery if the query is none, and InvalidOrder if the order is not a good one of it."""
    if not is_good(query, order):
        raise InvalidOrder("not a good order of the query")


def needed_order(query):
    """Return any good order, or raise Unsorted with a witness."""
    order = good_order(query)
    if order is None:
        raise Unsorted(witness(query))
    return order


def earlier_neighbours(query, order):
    """Return a dict from all columns, ascending, to their earlier neighbours, in the order."""
    near = neighbours(query)
    return {column: tuple([other for other in order[:order.index(column)] if other in near[column]])
            for column in query.columns}


def fits(atoms, column, others):
    """Return whether some atom has the column and all of its neighbours among the others."""
    own = [columns for columns in atoms if column in columns]
    # The column itself can be one of the others: all of its atoms have it.
    near = [other for other in others if any([other in columns for columns in own])]
    return are_covered(own, near)


def are_fitting(query, columns):
    """Return whether each of the columns fits behind those before it."""
    atoms = list(query.atoms.values())
    return all([fits(atoms, column, columns[:at]) for at, column in enumerate(columns)])


def continued(query, first, columns):
    """Return the first columns and then the others of the columns, so that each one fits, or None."""
    behind = ending(query, first, columns)
    return (*first, *behind) if behind is not None and are_fitting(query, first) else None


def ending(query, first, columns):
    """Return an order of the other columns in which each one fits behind the first ones, or None."""
    atoms = list(query.atoms.values())
    left = [column for column in columns if column not in first]
    behind = ()
    while left:
        fitting = [column for column in left if fits(atoms, column, (*first, *left))]
        if not fitting:
            return None
        # Any of them can be the last one: the fewer columns stand before a column, the better it fits.
        behind = (fitting[-1], *behind)
        left.remove(fitting[-1])
    return behind


def orders_from(query, first, columns):
    """Yield all tuples that go on from the first columns with the others so that each one fits, ascending."""
    if continued(query, first, columns) is None:
        return
    known = {}
    stack = [first]
    while stack:
        order = stack.pop()
        if len(order) == len(columns):
            yield order
        # What can come next depends on which columns stand there, not on their order.
        there = tuple(sorted(order))
        if there not in known:
            # An ending of those that stand there has each of the others behind them, so each one fits there.
            known[there] = [column for column in sorted(columns, reverse=True)
                            if column not in there and ending(query, (*there, column), columns) is not None]
        stack.extend([(*order, column) for column in known[there]])
