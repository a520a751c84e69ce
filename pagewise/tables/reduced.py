"""Reduced tables, of which each row is part of a solution, and tables that agree and have none."""

from pagewise.layers.counts import counted
from pagewise.orders.good import needed_order
from pagewise.pages.places import answer_at
from pagewise.problems.closed import closed_tables
from pagewise.problems.products import check_witness
from pagewise.tables.answers import picked, places_of
from pagewise.tables.tables import check_tables

LIKE = ((0, 0), (1, 1))
UNLIKE = ((0, 1), (1, 0))


def agree(query, tables):
    """Return whether each two atoms have the same rows for their common columns."""
    check_tables(query, tables)
    return narrowed(query.atoms, tables) == tables


def reduced(query, tables):
    """Return the tables of the used rows."""
    check_tables(query, tables)
    needed_order(query.with_shown())
    atoms = query.atoms
    wider, kept = {}, {name: tables[name] for name in atoms}
    # Without a ring and a shell, tables that agree are reduced.
    while wider != kept:
        wider, kept = kept, narrowed(atoms, kept)
    return kept


def is_reduced(query, tables):
    """Return whether all rows are used."""
    return reduced(query, tables) == tables


def any_solution(query, tables):
    """Return any solution, or None."""
    counts = counted_solutions(query, tables)
    if counts.number == 0:
        return None
    numbers = dict(zip(counts.frame.sequence, answer_at(counts, 0)))
    return {column: numbers[column] for column in query.columns}


def count_solutions(query, tables):
    """Return the number of solutions."""
    return counted_solutions(query, tables).number


def clashing(query, witness):
    """Return tables that agree, none of them empty, and have no solution."""
    check_witness(query, witness, ("ring", "shell"))
    word, columns = witness
    many = len(columns)
    if word == "ring":
        return closed_tables(query, witness, (LIKE,) * (many - 1) + (UNLIKE,))
    # Each choice of a face has the sum 1. A full choice would have the sum s with (many - 1) * s equal to many.
    return closed_tables(query, witness, (single_ones(many - 1),) * many)


def narrowed(atoms, tables):
    """Return the tables without some rows with which no row of some other atom goes; without none if they agree."""
    kept = {name: tables[name] for name in atoms}
    for name, own in atoms.items():
        for other, columns in atoms.items():
            kept[name] = fitting_rows(own, kept[name], columns, kept[other])
    return kept


def fitting_rows(own, rows, columns, others):
    """Return the rows of an atom with its own columns with which a row of an atom with these columns goes."""
    common = [column for column in own if column in columns]
    places = places_of(common, own)
    spots = places_of(common, columns)
    there = {picked(row, spots): True for row in others}
    return tuple([row for row in rows if picked(row, places) in there])


def counted_solutions(query, tables):
    """Return the counts in which every column is shown, so that each solution is an answer of its own."""
    check_tables(query, tables)
    order = needed_order(query.with_shown())
    return counted(query.with_shown_of(order), tables, order)


def single_ones(size):
    """Return the ascending tuple of the rows of so many integers of which one is 1 and the others are 0."""
    return tuple([tuple([1 if at == place else 0 for at in range(size)]) for place in reversed(range(size))])
