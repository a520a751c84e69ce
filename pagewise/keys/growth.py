"""How queries and their tables grow by keys that have been checked."""

from pagewise.queries.queries import Query
from pagewise.tables.answers import picked, places_of


def decided_columns(columns, keys):
    """Return a list of the columns and of all further ones that they decide by the keys."""
    found = list(columns)
    size = -1
    while size < len(found):
        size = len(found)
        for _, given, column in keys:
            if column not in found and have_all(found, given):
                found.append(column)
    return found


def growth(query, keys):
    """Return the tuple of the pairs of an atom and a key by which the atom gets a column, one after another."""
    atoms = query.atoms
    names = list(atoms)
    pairs = []
    many = -1
    while many < len(pairs):
        many = len(pairs)
        for key in keys:
            _, given, column = key
            for name in names:
                if column not in atoms[name] and have_all(atoms[name], given):
                    atoms[name] = (*atoms[name], column)
                    pairs.append((name, key))
    return tuple(pairs)


def grown_query(query, keys):
    """Return the query that grew by the keys."""
    atoms = query.atoms
    for name, key in growth(query, keys):
        atoms[name] = (*atoms[name], key[2])
    shown = sorted(decided_columns((), keys))
    for column in query.shown:
        if column not in shown:
            shown.append(column)
            further = [other for other in decided_columns(shown, keys) if other not in shown]
            shown.extend(sorted(further))
    return Query.of(tuple(shown), atoms, down=query.down)


def grown_rows(query, tables, keys):
    """Return the tables that grew by the keys, which hold."""
    atoms = query.atoms
    kept = {name: tables[name] for name in atoms}
    for name, key in growth(query, keys):
        numbers = found_numbers(query, tables, key)
        places = places_of(key[1], atoms[name])
        # What a row gets depends on what it has, so the rows stay ascending.
        told = [(row, picked(row, places)) for row in kept[name]]
        kept[name] = tuple([(*row, numbers[part]) for row, part in told if part in numbers])
        atoms[name] = (*atoms[name], key[2])
    return kept


def found_numbers(query, tables, key):
    """Return a dict from the values of the given columns of a key to the value of the found one, or None."""
    name, given, column = key
    own = query.atom(name)
    places = places_of(given, own)
    at = own.index(column)
    numbers = {}
    for row in tables[name]:
        # The key does not hold if equal values go with two unlike ones.
        if numbers.setdefault(picked(row, places), row[at]) != row[at]:
            return None
    return numbers


def have_all(columns, given):
    """Return whether all given columns are among the columns."""
    return all([column in columns for column in given])
