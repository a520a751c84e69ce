"""The layers of a good order, kept so that other tables change only what depends on their rows.

Inside, the columns of each atom stand in the order, and the values of columns that are sorted down have the other
sign. So all that is kept here is ascending where the answers are sorted.
"""

from pagewise.layers.forests import children, layer_columns
from pagewise.tables.answers import picked, places_of


class Stand:
    """Where a column stands: its layer columns, and the places of other columns among them."""

    def __init__(self, query, layer, below, column):
        own = layer[column]
        self.length = len(own)
        self.is_shown = column in query.shown
        self.atom_places = {name: places_of([one for one in own if one in query.atom(name)], own)
                            for name in query.having(column)}
        # All columns of the home that do not stand behind the column are layer columns, so its rows begin with them.
        self.home_atom = [name for name, places in self.atom_places.items() if len(places) == self.length][0]
        self.child_places = {child: places_of(layer[child][:-1], own) for child in below[column]}


class Frame:
    """What a query and a good order tell, whatever the tables are."""

    def __init__(self, query, order):
        layer = layer_columns(query, order)
        below = children(query, order)
        self.asked = query
        self.sequence = order
        self.stands = {column: Stand(query, layer, below, column) for column in order}
        self.turns = {name: turns_of(query, order, own) for name, own in query.atoms.items()}
        # Where the values of the other layer columns of a shown column stand in an answer, and the signs inside.
        self.leads = [places_of(layer[column][:-1], order) for column in query.shown]
        self.signs = [-1 if column in query.down else 1 for column in query.shown]


class Shelf:
    """The values of a column behind one row of its other layer columns, ascending, and their numbers."""

    def __init__(self, numbers, is_shown):
        self.numbers = numbers
        self.ranked = sorted(list(numbers))
        # The sums of the first numbers: of none of them, of one, of two and so on.
        self.sums = [0]
        for value in self.ranked:
            self.sums.append(self.sums[-1] + numbers[value])
        self.weight = self.sums[-1] if is_shown else 1


class Counts:
    """The numbers of a query on tables, by a good order. They never change."""

    def __init__(self, frame, contents, turned, shelves):
        self.frame = frame
        self.contents = contents
        self.turned = turned
        self.shelves = shelves
        self.number = 1
        for column, stand in frame.stands.items():
            if stand.length == 1:
                self.number = self.number * weight_of(shelves[column], ())

    def on(self, tables):
        """Return the counts on other tables of the query. They share what stays."""
        turned, changed = {}, {}
        for name, turns in self.frame.turns.items():
            went, came = differences(self.contents[name], tables[name])
            gone = [turned_row(row, turns) for row in went]
            added = [turned_row(row, turns) for row in came]
            turned[name] = exchanged(self.turned[name], gone, added)
            changed[name] = gone + added
        shelves, altered = {}, {}
        # The numbers of a column depend on those of its children, which stand behind it.
        for column in reversed(list(self.frame.sequence)):
            stand, old = self.frame.stands[column], self.shelves[column]
            numbers = {}
            for row in touched_rows(stand, turned, changed, altered):
                group = numbers.setdefault(row[:-1], {})
                group[row[-1]] = number_of(row, stand, turned, shelves)
            new = renewed(old, numbers, stand.is_shown)
            shelves[column] = new
            altered[column] = {first: True for first in numbers if weight_of(old, first) != weight_of(new, first)}
        return Counts(self.frame, {name: tables[name] for name in turned}, turned, shelves)


def counted(query, tables, order):
    """Return the counts of the query on the tables, by a good order."""
    frame = Frame(query, order)
    atoms = query.atoms
    empty = Counts(frame, {name: () for name in atoms}, {name: [] for name in atoms}, {column: {} for column in order})
    return empty.on(tables)


def turns_of(query, order, own):
    """Return for each column of an atom, in the order, its place in the atom and the sign of its values inside."""
    return [(own.index(column), -1 if column in query.down else 1) for column in order if column in own]


def turned_row(row, turns):
    """Return the values of a row as they are kept inside."""
    return tuple([sign * row[place] for place, sign in turns])


def differences(old, new):
    """Return the list of the rows that went, and of those that came."""
    if old == new:
        return [], []
    before = set(old)
    behind = set(new)
    return [row for row in old if row not in behind], [row for row in new if row not in before]


def exchanged(rows, gone, added):
    """Return the ascending list of the rows without some and with others."""
    if not gone and not added:
        return rows
    missing = set(gone)
    return sorted([row for row in rows if row not in missing] + added)


def touched_rows(stand, turned, changed, altered):
    """Return all rows of the layer columns whose number can have changed, and perhaps some others."""
    touched = {row[:stand.length]: True for row in changed[stand.home_atom]}
    parts = [(places, {row[:len(places)]: True for row in changed[name]})
             for name, places in stand.atom_places.items() if name != stand.home_atom and changed[name]]
    parts.extend([(places, altered[child]) for child, places in stand.child_places.items() if altered[child]])
    if parts:
        there = {row[:stand.length]: True for row in turned[stand.home_atom]}
        for places, values in parts:
            touched.update({row: True for row in there if picked(row, places) in values})
    return list(touched)


def number_of(row, stand, turned, shelves):
    """Return the number of a row of the layer columns, 0 if it is not let by."""
    for name, places in stand.atom_places.items():
        if not has_beginning(turned[name], picked(row, places)):
            return 0
    number = 1
    for child, places in stand.child_places.items():
        number = number * weight_of(shelves[child], picked(row, places))
    return number


def has_beginning(rows, part):
    """Return whether one of the ascending rows begins with these values."""
    at = place_in(rows, part)
    return at < len(rows) and rows[at][:len(part)] == part


def place_in(ranked, value):
    """Return how many of the ascending values are less than the value."""
    low, high = 0, len(ranked)
    while low < high:
        half = (low + high) // 2
        if ranked[half] < value:
            low = half + 1
        else:
            high = half
    return low


def renewed(shelves, fresh, is_shown):
    """Return the shelves with fresh numbers behind some rows, sharing the others."""
    made = {first: shelf for first, shelf in shelves.items() if first not in fresh}
    for first, numbers in fresh.items():
        old = shelves[first].numbers if first in shelves else {}
        left = {value: number for value, number in {**old, **numbers}.items() if number > 0}
        if left:
            made[first] = Shelf(left, is_shown)
    return made


def weight_of(shelves, first):
    """Return the factor that the values behind a row of other layer columns give."""
    return shelves[first].weight if first in shelves else 0
