"""Where answers stand, found by walking down the shown columns of kept counts."""

from pagewise.base.rows import are_integers, is_integer, is_row
from pagewise.errors import InvalidNumber, InvalidOrder, InvalidRow
from pagewise.layers.counts import counted, place_in
from pagewise.orders.good import is_good, needed_order
from pagewise.tables.answers import picked
from pagewise.tables.tables import check_tables


def checked_counts(query, tables, order):
    """Return the counts of the query on the tables, by this good order, or by any one if it is None."""
    check_tables(query, tables)
    if order is not None and not is_good(query, order):
        raise InvalidOrder("not a good order of the query")
    return counted(query, tables, needed_order(query) if order is None else order)


def answer_of(counts, position):
    """Return the answer at the position, or raise InvalidNumber."""
    if not is_integer(position) or not 0 <= position < counts.number:
        raise InvalidNumber(position)
    return answer_at(counts, position)


def position_in(counts, row):
    """Return the number of answers that stand before the row, or raise InvalidRow."""
    check_shown_row(counts, row)
    return told_place(counts, row)[0]


def has_answer(counts, value):
    """Return whether the value is an answer."""
    return is_row(len(counts.frame.leads), value) and told_place(counts, value)[1] > 0


def check_shown_row(counts, row):
    """Raise InvalidRow if the value is no shown row."""
    if not is_row(len(counts.frame.leads), row):
        raise InvalidRow("not an integer for each shown column")


def check_values(counts, values):
    """Raise InvalidRow if shown rows cannot begin with the values."""
    if not are_integers(values) or len(values) > len(counts.frame.leads):
        raise InvalidRow("not integers for the first shown columns")


def told_place(counts, values):
    """Return how many answers stand before all rows that begin with the values, and how many begin with them."""
    inside = other_side(counts, values)
    before, number = 0, counts.number
    for at, value in enumerate(inside):
        # Without answers there need not be a shelf for what is told.
        if number > 0:
            shelf = shelf_at(counts, at, inside)
            each = number // shelf.weight
            before = before + each * shelf.sums[place_in(shelf.ranked, value)]
            number = each * shelf.numbers[value] if value in shelf.numbers else 0
    return before, number


def answer_at(counts, position):
    """Return the answer at a position where there is one."""
    inside = []
    left, number = position, counts.number
    for at in range(len(counts.frame.leads)):
        shelf = shelf_at(counts, at, inside)
        each = number // shelf.weight
        place = place_in(shelf.sums, left // each + 1) - 1
        left = left - each * shelf.sums[place]
        inside.append(shelf.ranked[place])
        number = each * shelf.numbers[inside[at]]
    return other_side(counts, inside)


def answers_from(counts, start, many):
    """Return the tuple of the answers from a position on, at most so many."""
    return tuple([answer_at(counts, position) for position in range(start, min(start + many, counts.number))])


def shelf_at(counts, at, inside):
    """Return the shelf of a shown column behind the values inside that are told for the columns before it."""
    column = counts.frame.sequence[at]
    return counts.shelves[column][picked(inside, counts.frame.leads[at])]


def other_side(counts, values):
    """Return the values inside for those outside, or those outside for those inside."""
    return tuple([sign * value for sign, value in zip(counts.frame.signs, values)])
