"""Beginnings of sort orders: which ones can be completed, and how many good sort orders there are."""

from pagewise.errors import InvalidOrder
from pagewise.orders.good import continued, ending, fits, orders_from
from pagewise.queries.forms import are_some_of
from pagewise.queries.queries import check_query
from pagewise.shapes.witnesses import is_witness, witness, witnesses


def completed(query, beginning):
    """Return any good sort order that completes the beginning, or None."""
    check_beginning(query, beginning)
    return continued(query, beginning, query.shown) if can_be_sorted(query) else None


def beginning_paper(query, beginning):
    """Return any beginning paper: a good sort order that completes the beginning, or a witness of it."""
    order = completed(query, beginning)
    if order is not None:
        return ("sort", order)
    # A trio of the query is none of the beginning, but all other witnesses of the query are.
    for pair in witnesses(query):
        if pair[0] != "trio":
            return pair
    return witness(query.with_shown_of(beginning))


def is_beginning_paper(query, beginning, value):
    """Return whether the value is a beginning paper."""
    check_beginning(query, beginning)
    if not isinstance(value, tuple) or len(value) != 2:
        return False
    if value[0] == "sort":
        return is_good_sort(query, value[1]) and value[1][:len(beginning)] == beginning
    if value[0] != "trio" and is_witness(query, value):
        return True
    return is_witness(query.with_shown_of(beginning), value)


def sort_orders(query):
    """Yield all good sort orders, ascending."""
    check_query(query)
    if can_be_sorted(query):
        for order in orders_from(query, (), query.shown):
            yield order


def count_sort_orders(query):
    """Return the number of good sort orders."""
    check_query(query)
    if not can_be_sorted(query):
        return 0
    atoms = list(query.atoms.values())
    # Beginnings with the same columns go on in the same ways, so they are counted together.
    counts = {(): 1}
    for _ in query.shown:
        longer = {}
        for first, many in counts.items():
            for column in query.shown:
                if column not in first and fits(atoms, column, first):
                    there = tuple(sorted((*first, column)))
                    longer[there] = longer.get(there, 0) + many
        counts = longer
    return counts.get(tuple(sorted(query.shown)), 0)


def longest_beginning(query, wish):
    """Return the longest tuple with which the wish begins and that can be completed, or None."""
    check_beginning(query, wish)
    longest = None
    for size in range(len(wish) + 1):
        if completed(query, wish[:size]) is None:
            return longest
        longest = wish[:size]
    return longest


def check_beginning(query, beginning):
    """Raise InvalidQuery if the query is none, and InvalidOrder if the value is not a beginning of it."""
    check_query(query)
    if not are_some_of(beginning, query.shown):
        raise InvalidOrder("not different shown columns of the query")


def can_be_sorted(query):
    """Return whether the hidden columns fit behind the shown ones, in whatever order these stand."""
    return ending(query, query.shown, query.columns) is not None


def is_good_sort(query, value):
    """Return whether the value is a good sort order."""
    if not are_some_of(value, query.shown) or len(value) != len(query.shown):
        return False
    return completed(query, value) is not None
