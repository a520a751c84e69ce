"""The parts of a query, checked before the query is made of them."""

from pagewise.base.rows import is_name
from pagewise.errors import InvalidQuery


class Form:
    """The checked parts of a query. None is handed out, so no caller can pass one."""

    def __init__(self, shown, atoms, down):
        self.shown_columns = shown
        self.down_columns = tuple(sorted(down))
        self.atom_columns = {name: atoms[name] for name in sorted(atoms)}
        self.all_columns = columns_of(atoms)


def checked_form(shown, atoms, down):
    """Return the form with these parts, or raise InvalidQuery."""
    if not are_atoms(atoms):
        raise InvalidQuery("the atoms are not a dict from names to tuples of different names")
    if not are_some_of(shown, columns_of(atoms)):
        raise InvalidQuery("the shown columns are not different columns of the atoms")
    if not are_some_of(down, shown):
        raise InvalidQuery("the columns that are sorted down are not different shown columns")
    return Form(shown, atoms, down)


def columns_of(atoms):
    """Return the columns of the atoms, ascending."""
    return tuple(sorted({column for columns in atoms.values() for column in columns}))


def are_atoms(value):
    """Return whether the value is a dict from names to the columns of atoms, not empty."""
    if not isinstance(value, dict) or not value:
        return False
    return all([is_name(name) and are_names(columns) and len(columns) > 0 for name, columns in value.items()])


def are_names(value):
    """Return whether the value is a tuple of different names."""
    if not isinstance(value, tuple) or not all([is_name(name) for name in value]):
        return False
    return len(set(value)) == len(value)


def are_some_of(value, names):
    """Return whether the value is a tuple of different ones of the names."""
    return are_names(value) and all([name in names for name in value])
