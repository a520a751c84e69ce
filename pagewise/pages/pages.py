"""Pages: the answers of a query at their positions, which are found without making them."""

from pagewise.base.rows import is_integer
from pagewise.errors import InvalidNumber
from pagewise.layers.counts import Counts
from pagewise.pages.places import (answer_at, answer_of, answers_from, check_values, checked_counts, has_answer,
                                   position_in, told_place)

MAX_SIZE = 1000


class Pages:
    """The answers of a query on tables. A Pages never changes."""

    def __init__(self, query, tables, *, order=None):
        # A live object passes its counts as `tables`. They are handed out to nobody, so no caller can pass some.
        self._counts = tables if isinstance(tables, Counts) else checked_counts(query, tables, order)

    @property
    def query(self):
        """The query."""
        return self._counts.frame.asked

    @property
    def tables(self):
        """A dict from the atoms to their rows."""
        return dict(self._counts.contents)

    @property
    def order(self):
        """The good order that is used."""
        return self._counts.frame.sequence

    @property
    def total(self):
        """The number of answers."""
        return self._counts.number

    def position_of(self, row):
        """Return the number of answers that stand before a shown row."""
        return position_in(self._counts, row)

    def after(self, row):
        """Return the first answer behind a shown row, or None."""
        position = position_in(self._counts, row) + told_place(self._counts, row)[1]
        return answer_at(self._counts, position) if position < self._counts.number else None

    def ahead_of(self, row):
        """Return the last answer before a shown row, or None."""
        position = position_in(self._counts, row)
        return answer_at(self._counts, position - 1) if position > 0 else None

    def between(self, first, last):
        """Return the number of answers that stand neither before the first row nor behind the last one."""
        before = position_in(self._counts, first)
        behind = position_in(self._counts, last) + told_place(self._counts, last)[1]
        return max(0, behind - before)

    def span(self, values=()):
        """Return the first position of the answers that begin with the values, and the one behind them."""
        check_values(self._counts, values)
        before, number = told_place(self._counts, values)
        return before, before + number

    def starts(self, values=()):
        """Return the number of answers that begin with the values."""
        check_values(self._counts, values)
        return told_place(self._counts, values)[1]

    def page(self, number, *, size=10):
        """Return the answers of the page with this number, of which each has this size."""
        if not is_integer(number) or number < 0:
            raise InvalidNumber(number)
        if not is_integer(size) or not 1 <= size <= MAX_SIZE:
            raise InvalidNumber(size)
        return answers_from(self._counts, number * size, size)

    def walk(self, *, start=0, many=None):
        """Yield the answers from a position on, at most so many."""
        if not is_integer(start) or not 0 <= start <= self._counts.number:
            raise InvalidNumber(start)
        if many is not None and (not is_integer(many) or many < 0):
            raise InvalidNumber(many)
        behind = self._counts.number if many is None else min(start + many, self._counts.number)
        for position in range(start, behind):
            yield answer_at(self._counts, position)

    def __getitem__(self, at):
        return answer_of(self._counts, at)

    def __contains__(self, value):
        return has_answer(self._counts, value)

    def __iter__(self):
        raise TypeError("pages are walked, not iterated")

    def __bool__(self):
        return bool(self._counts.number > 0)

    def __eq__(self, other):
        return (isinstance(other, Pages) and self._counts.frame.asked == other._counts.frame.asked
                and self._counts.contents == other._counts.contents)

    def __str__(self):
        return f"pages of {self._counts.number} answers"
