"""Equalities between columns and integers: which columns are alike, what is left of queries and tables, and texts."""

from pagewise.base.rows import is_integer
from pagewise.errors import InvalidOperation, ParseError
from pagewise.pages.pages import MAX_SIZE
from pagewise.queries.queries import Query
from pagewise.tables.answers import picked, places_of
from pagewise.text.formats import check_text, parse_query
from pagewise.text.words import integer_in


def are_fixed(query, value):
    """Return whether the value is a dict from columns of the query to integers."""
    return isinstance(value, dict) and all([column in query and is_integer(number) for column, number in value.items()])


def are_pairs(query, value):
    """Return whether the value is a tuple of pairs of columns of the query."""
    if not isinstance(value, tuple) or not all([isinstance(pair, tuple) and len(pair) == 2 for pair in value]):
        return False
    return all([column in query for pair in value for column in pair])


def least_alike(columns, pairs):
    """Return a dict from the ascending columns to the least column that is alike."""
    least = {column: column for column in columns}
    for first, second in pairs:
        low, high = sorted([least[first], least[second]])
        least = {column: low if other == high else other for column, other in least.items()}
    return least


def fixed_numbers(least, equals):
    """Return a dict from all fixed columns, ascending, to their integers, by pairs of columns and integers."""
    numbers = {}
    for column, number in equals:
        if numbers.setdefault(least[column], number) != number:
            raise InvalidOperation("a column would equal two different integers")
    return {column: numbers[other] for column, other in least.items() if other in numbers}


def other_alike(least, fixed):
    """Return a dict from the columns that are not fixed to the least ones that are alike, where these are others."""
    return {column: other for column, other in least.items() if column not in fixed and column != other}


def replaced(columns, fixed, same):
    """Return a dict from what stands for columns in the compiled query to the first column that it is taken from."""
    taken = {}
    for column in columns:
        if column not in fixed:
            taken.setdefault(same.get(column, column), column)
    return taken


def kept_columns(own, fixed, same):
    """Return what `replaced` does for an atom, which keeps its least column if all of them are fixed."""
    return replaced(own, fixed, same) or {min(own): min(own)}


def compiled_query(query, fixed, same):
    """Return the query in which fixed columns are left out, and others replaced by the least ones that are alike."""
    atoms = {name: tuple(list(kept_columns(own, fixed, same))) for name, own in query.atoms.items()}
    shown = replaced(query.shown, fixed, same)
    down = tuple([column for column, taken in shown.items() if taken in query.down])
    return Query.of(tuple(list(shown)), atoms, down=down)


def compiled_rows(own, rows, fixed, same):
    """Return the rows of an atom that fulfil the equalities, without the columns that are left out."""
    kept = kept_columns(own, fixed, same)
    places = places_of(list(kept.values()), own)
    asked = [(at, fixed[column]) for at, column in enumerate(own) if column in fixed]
    alike = [(at, own.index(kept[same.get(column, column)])) for at, column in enumerate(own) if column not in fixed]
    return tuple([picked(row, places) for row in rows if all([row[at] == number for at, number in asked])
                  and all([row[at] == row[other] for at, other in alike])])


def equalities_text(fixed, same):
    """Return the text of equalities, by the first columns in ascending order, or an empty one."""
    worth = {**fixed, **same}
    return " and ".join([f"{column} = {worth[column]}" for column in sorted(list(worth))])


def select_parts(text):
    """Return query, pairs of columns and integers, pairs of columns, size and offset of the text of a select."""
    check_text(text)
    head, sign, tail = text.rpartition(")")
    if not head.startswith("select ") or (tail and not tail.startswith(" ")):
        raise ParseError("not the text of a select")
    query = parse_query(head.removeprefix("select ") + sign)
    equals, pairs, words = equalities_in(query, tail.split(" ")[1:])
    size, words = number_behind("limit", words)
    offset, words = number_behind("offset", words)
    if words or (size is not None and size > MAX_SIZE):
        raise ParseError("not the text of a select")
    return query, equals, pairs, size, 0 if offset is None else offset


def equalities_in(query, words):
    """Return pairs of columns and integers, pairs of columns, and the words behind these equalities."""
    equals, pairs = (), ()
    joining = "where"
    while words[:1] == [joining]:
        if len(words) < 4 or words[1] not in query or words[2] != "=":
            raise ParseError("not an equality")
        number = integer_in(words[3])
        if number is not None:
            equals = (*equals, (words[1], number))
        elif words[3] in query:
            pairs = (*pairs, (words[1], words[3]))
        else:
            raise ParseError("a column equals an integer or a column")
        words = words[4:]
        joining = "and"
    return equals, pairs, words


def number_behind(word, words):
    """Return the integer behind the word, if the words begin with it, or None, and the words behind."""
    if words[:1] != [word]:
        return None, words
    number = integer_in(words[1]) if len(words) > 1 else None
    if number is None or number < 0:
        raise ParseError("not an integer of at least 0")
    return number, words[2:]
