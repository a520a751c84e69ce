"""Edits of tables: what they change, how they are undone, and those that lead from tables to others."""

from pagewise.base.rows import is_row
from pagewise.errors import TooMany
from pagewise.layers.counts import differences
from pagewise.tables.tables import MAX_ROWS

PUT = "put"
DROP = "drop"


def is_edit(query, value):
    """Return whether the value is an edit of tables of the query."""
    if not isinstance(value, tuple) or len(value) != 3 or value[0] not in (PUT, DROP):
        return False
    atoms = query.atoms
    return isinstance(value[1], str) and value[1] in atoms and is_row(len(atoms[value[1]]), value[2])


def edited(tables, edits):
    """Return the tables behind the edits, and the tuple of those edits that changed something."""
    touched = {}
    done = []
    for edit in edits:
        word, atom, row = edit
        if atom not in touched:
            touched[atom] = {one: True for one in tables[atom]}
        rows = touched[atom]
        if word == DROP and row in rows:
            del rows[row]
            done.append(edit)
        if word == PUT and row not in rows:
            if len(rows) >= MAX_ROWS:
                raise TooMany(MAX_ROWS)
            rows[row] = True
            done.append(edit)
    behind = {atom: tuple(sorted(list(touched[atom]))) if atom in touched else own for atom, own in tables.items()}
    return behind, tuple(done)


def reversed_edits(steps):
    """Return the edits that undo the steps, the last one first."""
    return [(PUT if word == DROP else DROP, atom, row)
            for step in reversed(list(steps)) for word, atom, row in reversed(list(step))]


def edits_between(old, new):
    """Return the edits that make other tables of some: for each atom the drops and then the puts."""
    edits = []
    for atom, own in old.items():
        went, came = differences(own, new[atom])
        edits.extend([(DROP, atom, row) for row in went])
        edits.extend([(PUT, atom, row) for row in came])
    return tuple(edits)
