"""Closed rows of relations and full choices of faces, and their translation to tables of a query."""

from pagewise.errors import InvalidRow
from pagewise.problems.products import check_relations, check_witness, integers_at, is_input
from pagewise.tables.answers import grouped

LEAST_MANY = 3
MOST_MANY = 10


def closed_row(relations):
    """Return the least closed row of the relations, or None."""
    check_many_inputs(relations)
    check_relations(relations)
    for start in integers_at(relations[0], 0):
        closing = closing_values(relations, start)
        if start in closing[0]:
            return least_closed(relations, start, closing)
    return None


def full_choice(faces):
    """Return the least full choice of the faces, or None."""
    check_many_inputs(faces)
    check_faces(faces)
    known = [{one: True for one in face} for face in faces]
    middle = list(range(len(faces) - 2))
    # The last face tells all integers but the last one, and the first face tells which ones can stand behind them.
    ends = grouped(faces[0], middle, [len(middle)])
    for row in faces[-1]:
        for end in ends.get(row[1:], []):
            choice = row + end
            if all([choice[:at] + choice[at + 1:] in rows for at, rows in enumerate(known)]):
                return choice
    return None


def closed_tables(query, witness, inputs):
    """Return tables whose solutions have the closed rows or full choices of the inputs in the witness, 0 elsewhere."""
    check_witness(query, witness, ("ring", "shell"))
    word, columns = witness
    if not isinstance(inputs, tuple) or len(inputs) != len(columns):
        raise InvalidRow("not as many inputs as the witness has columns")
    if word == "ring":
        check_relations(inputs)
    else:
        check_faces(inputs)
    covers = covers_of(word, columns)
    return {name: covered_rows(own, columns, covers, inputs) for name, own in query.atoms.items()}


def check_many_inputs(inputs):
    """Raise InvalidRow if the value is not a tuple of 3 to 10 values."""
    if not isinstance(inputs, tuple) or not LEAST_MANY <= len(inputs) <= MOST_MANY:
        raise InvalidRow("not a tuple of 3 to 10 inputs")


def check_faces(faces):
    """Raise InvalidRow if one of the values is not a face beside so many others."""
    if not all([is_input(len(faces) - 1, face) for face in faces]):
        raise InvalidRow("not an ascending tuple of tuples of integers, one for each other column")


def closing_values(relations, start):
    """Return for each place of a row a dict of the integers from which the relations lead on to the start."""
    closing = [{start: True}]
    for relation in reversed(list(relations)):
        closing = [{first: True for first, second in relation if second in closing[0]}, *closing]
    return closing


def least_closed(relations, start, closing):
    """Return the least closed row that begins with the start, where there is one."""
    row = [start]
    for at in range(1, len(relations)):
        # Relations are ascending, so the first integer that leads on is the least one.
        fitting = [second for first, second in relations[at - 1] if first == row[-1] and second in closing[at]]
        row.append(fitting[0])
    return tuple(row)


def covers_of(word, columns):
    """Return for each input the columns of the witness of which it tells the integers."""
    size = len(columns)
    if word == "ring":
        return [(columns[at], columns[(at + 1) % size]) for at in range(size)]
    return [columns[:at] + columns[at + 1:] for at in range(size)]


def covered_rows(own, columns, covers, inputs):
    """Return the rows of an atom with its own columns: what the first input tells that tells of all of them."""
    asked = [column for column in own if column in columns]
    at = [place for place, cover in enumerate(covers) if all([column in cover for column in asked])][0]
    told = [dict(zip(covers[at], row)) for row in inputs[at]]
    return tuple(sorted({tuple([numbers.get(column, 0) for column in own]) for numbers in told}))
