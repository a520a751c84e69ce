"""Layers, and the number of answers that they tell."""

from pagewise.base.rows import are_integers, is_integer
from pagewise.layers.counts import counted
from pagewise.orders.good import check_order, needed_order
from pagewise.tables.tables import check_tables


def layers(query, tables, order):
    """Return a dict from all columns to their layers by a good order."""
    check_tables(query, tables)
    check_order(query, order)
    # Layers do not depend on directions, and without them the numbers are kept for the values themselves.
    shelves = counted(query.with_shown_of(query.shown), tables, order).shelves
    return {column: layer_from(shelves[column]) for column in query.columns}


def is_layers(query, tables, order, value):
    """Return whether the value is the dict of the layers, made of integers."""
    if layers(query, tables, order) != value:
        return False
    # True is equal to 1, so the numbers that are equal are not yet integers.
    return all([are_integers(row) and is_integer(number) for layer in value.values() for row, number in layer.items()])


def total(query, tables):
    """Return the number of answers."""
    check_tables(query, tables)
    return counted(query, tables, needed_order(query)).number


def layer_from(shelves):
    """Return the layer that some shelves keep, its rows ascending."""
    return {(*first, value): shelves[first].numbers[value]
            for first in sorted(list(shelves)) for value in shelves[first].ranked}
