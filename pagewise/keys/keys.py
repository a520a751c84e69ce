"""Keys of a query, and the pages that they make of a query that has none itself."""

from pagewise.base.rows import are_integers, is_ascending, is_row, sort_key
from pagewise.errors import InvalidKey, InvalidRow
from pagewise.keys.growth import found_numbers, grown_query, grown_rows
from pagewise.pages.pages import Pages
from pagewise.queries.forms import are_some_of
from pagewise.queries.queries import check_query
from pagewise.tables.answers import picked, places_of
from pagewise.tables.tables import check_tables


def is_key(query, value):
    """Return whether the value is a key of the query."""
    check_query(query)
    if not isinstance(value, tuple) or len(value) != 3:
        return False
    name, given, found = value
    atoms = query.atoms
    if not isinstance(name, str) or name not in atoms or not are_some_of(given, atoms[name]):
        return False
    return is_ascending(given) and found in atoms[name] and found not in given


def holds_key(query, tables, key):
    """Return whether the key holds in the tables."""
    check_tables(query, tables)
    if not is_key(query, key):
        raise InvalidKey("not a key of the query")
    return found_numbers(query, tables, key) is not None


def grown(query, keys):
    """Return the query that grew by the keys."""
    check_query(query)
    check_are_keys(query, keys)
    return grown_query(query, keys)


def grown_tables(query, tables, keys):
    """Return the tables that grew by the keys."""
    check_tables(query, tables)
    check_are_keys(query, keys)
    if any([found_numbers(query, tables, key) is None for key in keys]):
        raise InvalidKey("a key does not hold")
    return grown_rows(query, tables, keys)


def shown_part(query, row, keys):
    """Return the part of a shown row of the grown query that is shown in the query."""
    larger = grown(query, keys).shown
    if not is_row(len(larger), row):
        raise InvalidRow("not an integer for each shown column of the grown query")
    return picked(row, places_of(query.shown, larger))


def check_are_keys(query, keys):
    """Raise InvalidKey if the value is not a tuple of keys of the query."""
    if not isinstance(keys, tuple) or not all([is_key(query, key) for key in keys]):
        raise InvalidKey("not a tuple of keys of the query")


class KeyedPages:
    """The answers of a query, found by a good order of the query that grew by keys. It never changes."""

    def __init__(self, query, tables, keys):
        larger = grown_tables(query, tables, keys)
        self._pages = Pages(grown(query, keys), larger)
        self._query = query
        self._tables = {name: tables[name] for name in query.atoms}
        self._spots = places_of(query.shown, self._pages.query.shown)
        self._places_down = places_of(query.down, query.shown)

    @property
    def query(self):
        """The query."""
        return self._query

    @property
    def tables(self):
        """A dict from the atoms to their rows."""
        return dict(self._tables)

    @property
    def total(self):
        """The number of answers."""
        return self._pages.total

    @property
    def grown(self):
        """The pages of the grown query on the grown tables."""
        return self._pages

    def position_of(self, row):
        """Return the number of answers that stand before a shown row."""
        self._check_shown_row(row)
        return self._span_of(row)[0]

    def after(self, row):
        """Return the first answer behind a shown row, or None."""
        self._check_shown_row(row)
        behind = self._span_of(row)[1]
        return self[behind] if behind < self._pages.total else None

    def ahead_of(self, row):
        """Return the last answer before a shown row, or None."""
        position = self.position_of(row)
        return self[position - 1] if position > 0 else None

    def span(self, values=()):
        """Return the first position of the answers that begin with the values, and the one behind them."""
        if not are_integers(values) or len(values) > len(self._spots):
            raise InvalidRow("not integers for the first shown columns")
        return self._span_of(values)

    def page(self, number, *, size=10):
        """Return the answers of the page with this number, of which each has this size."""
        return tuple([picked(row, self._spots) for row in self._pages.page(number, size=size)])

    def _check_shown_row(self, row):
        if not is_row(len(self._spots), row):
            raise InvalidRow("not an integer for each shown column")

    def _span_of(self, values):
        key = sort_key(values, self._places_down)
        low = self._first_from(0, key, False)
        return low, self._first_from(low, key, True)

    def _first_from(self, start, key, is_behind):
        # Answers are sorted, so the first one that is not before the key, or that is behind it, is found by halves.
        low, high = start, self._pages.total
        while low < high:
            half = (low + high) // 2
            part = sort_key(self[half][:len(key)], self._places_down)
            if part < key or (is_behind and part == key):
                low = half + 1
            else:
                high = half
        return low

    def __getitem__(self, at):
        return picked(self._pages[at], self._spots)

    def __contains__(self, value):
        if not is_row(len(self._spots), value):
            return False
        first, behind = self._span_of(value)
        return first < behind

    def __iter__(self):
        raise TypeError("the answers are asked for by their positions")

    def __eq__(self, other):
        return isinstance(other, KeyedPages) and self._query == other._query and self._tables == other._tables
