"""Queries, and the checks of arguments that are queries, columns or dicts by name."""

from pagewise.base.rows import is_name
from pagewise.errors import InvalidOperation, InvalidQuery, TooMany, UnknownName
from pagewise.queries.forms import Form, are_names, are_some_of, checked_form


class Query:
    """Atoms with columns, some of which are shown. A query never changes."""

    MAX_ATOMS = 10
    MAX_COLUMNS = 10

    def __init__(self, shown=(), *, down=(), **atoms):
        # `of` passes a form as `shown`, because its atoms can have the names of these parameters.
        form = shown if isinstance(shown, Form) else checked_form(shown, atoms, down)
        if len(form.atom_columns) > self.MAX_ATOMS:
            raise TooMany(self.MAX_ATOMS)
        if len(form.all_columns) > self.MAX_COLUMNS:
            raise TooMany(self.MAX_COLUMNS)
        self._shown = form.shown_columns
        self._down = form.down_columns
        self._atoms = form.atom_columns
        self._columns = form.all_columns

    @classmethod
    def of(cls, shown, atoms, *, down=()):
        """Return the query with the atoms of a dict."""
        return cls(checked_form(shown, atoms, down))

    @property
    def shown(self):
        """The shown columns, in the order in which answers are sorted by them."""
        return self._shown

    @property
    def down(self):
        """The columns that are sorted down, ascending."""
        return self._down

    @property
    def atoms(self):
        """A dict from the atoms to their columns."""
        return dict(self._atoms)

    @property
    def columns(self):
        """All columns, ascending."""
        return self._columns

    @property
    def hidden(self):
        """The columns that are not shown, ascending."""
        return tuple([column for column in self._columns if column not in self._shown])

    def atom(self, name):
        """Return the columns of an atom."""
        if not self._has_atom(name):
            raise UnknownName(name)
        return self._atoms[name]

    def having(self, column):
        """Yield the atoms that have a column, ascending."""
        check_column(self, column)
        for name, columns in self._atoms.items():
            if column in columns:
                yield name

    def with_atom(self, name, *columns):
        """Return the query with this atom, instead of the one with this name."""
        return self.with_atom_of(name, columns)

    def with_atom_of(self, name, columns):
        """Return the query with this atom, instead of the one with this name."""
        # Some values that are no names cannot be keys either.
        if not is_name(name):
            raise InvalidQuery("an atom needs a name")
        return Query.of(self._shown, {**self._atoms, name: columns}, down=self._down)

    def without_atom(self, name):
        """Return the query without this atom."""
        if not self._has_atom(name):
            raise UnknownName(name)
        kept = {other: columns for other, columns in self._atoms.items() if other != name}
        return Query.of(self._shown, kept, down=self._down)

    def with_shown(self, *columns, down=()):
        """Return the query that shows these columns."""
        return self.with_shown_of(columns, down=down)

    def with_shown_of(self, columns, *, down=()):
        """Return the query that shows these columns."""
        return Query.of(columns, self._atoms, down=down)

    def renamed(self, **names):
        """Return the query in which columns that are keys have new names."""
        return self.renamed_by(names)

    def renamed_by(self, names):
        """Return the query in which columns that are keys have new names."""
        check_keys(names, self._columns)
        new = {column: names.get(column, column) for column in self._columns}
        if not are_names(tuple(new.values())):
            raise InvalidQuery("the new names are not different names")
        atoms = {name: looked_up(new, columns) for name, columns in self._atoms.items()}
        return Query.of(looked_up(new, self._shown), atoms, down=looked_up(new, self._down))

    def _has_atom(self, name):
        return isinstance(name, str) and name in self._atoms

    def __or__(self, other):
        if not isinstance(other, Query):
            raise InvalidOperation("a query is joined with a query only")
        common = [name for name in self._atoms if name in other._atoms]
        if not all([self._atoms[name] == other._atoms[name] for name in common]):
            raise InvalidOperation("an atom has unlike columns in the two queries")
        added = tuple([column for column in other._shown if column not in self._shown])
        down = self._down + tuple([column for column in added if column in other._down])
        return Query.of(self._shown + added, {**self._atoms, **other._atoms}, down=down)

    def __ror__(self, other):
        # Python comes here only with a first value that is no query.
        raise InvalidOperation("a query is joined with a query only")

    def __invert__(self):
        down = tuple([column for column in self._shown if column not in self._down])
        return Query.of(self._shown, self._atoms, down=down)

    def __contains__(self, value):
        return value in self._columns

    def __len__(self):
        return len(self._columns)

    def __eq__(self, other):
        return (isinstance(other, Query) and self._shown == other._shown and self._down == other._down
                and self._atoms == other._atoms)

    def __str__(self):
        return f"query of {len(self._atoms)} atoms, {len(self._columns)} columns, {len(self._shown)} shown"


def looked_up(names, columns):
    """Return what the columns are called in a dict."""
    return tuple([names[column] for column in columns])


def check_query(query):
    """Raise InvalidQuery if the value is not a query."""
    if not isinstance(query, Query):
        raise InvalidQuery("not a query")


def check_column(query, column):
    """Raise UnknownName if the value is not a column of the query."""
    if column not in query:
        raise UnknownName(column)


def check_keys(values, names):
    """Raise an error if the value is not a dict of which all keys are ones of the names."""
    if not isinstance(values, dict) or not all([isinstance(key, str) for key in values]):
        raise InvalidOperation("not a dict whose keys are strings")
    for key in sorted(values):
        if key not in names:
            raise UnknownName(key)


def are_columns(query, value):
    """Return whether the value is a tuple of different columns of the query."""
    return are_some_of(value, query.columns)
