"""Selects: queries with equalities, of which some rows are selected."""

from pagewise.base.rows import is_integer
from pagewise.errors import InvalidNumber, InvalidOperation, TooMany
from pagewise.pages.pages import MAX_SIZE, Pages
from pagewise.queries.queries import check_query
from pagewise.tables.tables import check_tables
from pagewise.text.equalities import (are_fixed, are_pairs, compiled_query, compiled_rows, equalities_text,
                                      fixed_numbers, least_alike, other_alike, select_parts)
from pagewise.text.formats import format_query


class Select:
    """A written query with equalities, of whose answers some are selected. It never changes."""

    def __init__(self, query, *, fixed=None, same=(), size=None, offset=0):
        check_query(query)
        given = {} if fixed is None else fixed
        if not are_fixed(query, given):
            raise InvalidOperation("not a dict from columns to integers")
        if not are_pairs(query, same):
            raise InvalidOperation("not a tuple of pairs of columns")
        if size is not None and (not is_integer(size) or not 0 <= size <= MAX_SIZE):
            raise InvalidNumber(size)
        if not is_integer(offset) or offset < 0:
            raise InvalidNumber(offset)
        least = least_alike(query.columns, same)
        self._fixed = fixed_numbers(least, list(given.items()))
        self._same = other_alike(least, self._fixed)
        self._written = query
        self._compiled = compiled_query(query, self._fixed, self._same)
        self._size = size
        self._offset = offset

    @classmethod
    def read(cls, text):
        """Return the select with this text."""
        query, equals, pairs, size, offset = select_parts(text)
        # One column can stand in several equalities, but only once in a dict.
        fixed = fixed_numbers(least_alike(query.columns, pairs), equals)
        return cls(query, fixed=fixed, same=pairs, size=size, offset=offset)

    @property
    def written(self):
        """The written query."""
        return self._written

    @property
    def query(self):
        """The compiled query."""
        return self._compiled

    @property
    def fixed(self):
        """A dict from all fixed columns of the written query to their integers."""
        return dict(self._fixed)

    @property
    def same(self):
        """A dict from the other columns to the least ones that are alike, where these are others."""
        return dict(self._same)

    @property
    def size(self):
        """How many rows are selected at most, or None."""
        return self._size

    @property
    def offset(self):
        """The position in the list from which on rows are selected."""
        return self._offset

    def tables_for(self, tables):
        """Return the tables of the compiled query that tables of the written query make."""
        check_tables(self._written, tables)
        return {name: compiled_rows(own, tables[name], self._fixed, self._same)
                for name, own in self._written.atoms.items()}

    def rows(self, tables):
        """Yield the selected rows."""
        pages = Pages(self._compiled, self.tables_for(tables))
        start, many = self._range_in(pages)
        for row in pages.walk(start=start, many=many):
            yield self._written_row(row)

    def total_for(self, tables):
        """Return the length of the list from which rows are selected."""
        return Pages(self._compiled, self.tables_for(tables)).total

    def _range_in(self, pages):
        # Where the selected rows begin, and how many they are.
        start = min(self._offset, pages.total)
        left = pages.total - start
        return start, left if self._size is None else min(left, self._size)

    def _written_row(self, row):
        numbers = dict(zip(self._compiled.shown, row))
        return tuple([self._fixed[column] if column in self._fixed else numbers[self._same.get(column, column)]
                      for column in self._written.shown])

    def __call__(self, tables):
        pages = Pages(self._compiled, self.tables_for(tables))
        start, many = self._range_in(pages)
        if many > MAX_SIZE:
            raise TooMany(MAX_SIZE)
        return tuple([self._written_row(row) for row in pages.walk(start=start, many=many)])

    def __eq__(self, other):
        return (isinstance(other, Select) and self._written == other._written and self._fixed == other._fixed
                and self._same == other._same and self._size == other._size and self._offset == other._offset)

    def __str__(self):
        parts = [f"select {format_query(self._written)}"]
        if self._fixed or self._same:
            parts.append(f"where {equalities_text(self._fixed, self._same)}")
        if self._size is not None:
            parts.append(f"limit {self._size}")
        if self._offset > 0:
            parts.append(f"offset {self._offset}")
        return " ".join(parts)
