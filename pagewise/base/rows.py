"""Names, and rows of integers in their order."""

from pagewise.errors import InvalidNumber, InvalidOperation, InvalidRow

MAX_LETTERS = 8
MAX_SIZE = 10


def is_integer(value):
    """Return whether the value is an integer other than True and False."""
    return isinstance(value, int) and not isinstance(value, bool)


def are_integers(value):
    """Return whether the value is a tuple of integers."""
    return isinstance(value, tuple) and all([is_integer(part) for part in value])


def is_ascending(values):
    """Return whether each value is less than the next one."""
    return all([value < other for value, other in zip(values, values[1:])])


def is_name(value):
    """Return whether the value is a name: one to eight letters from a to z."""
    if not isinstance(value, str) or not 1 <= len(value) <= MAX_LETTERS:
        return False
    return all(["a" <= letter <= "z" for letter in value])


def is_row(size, value):
    """Return whether the value is a tuple of exactly `size` integers."""
    if not is_integer(size) or not 0 <= size <= MAX_SIZE:
        raise InvalidNumber(size)
    return are_integers(value) and len(value) == size


def before(row, other, *, down=()):
    """Return whether the row is sorted ahead of the other one."""
    check_rows((row, other))
    check_down(down)
    return sort_key(row, down) < sort_key(other, down)


def sorted_rows(rows, *, down=()):
    """Return the different rows of a tuple, sorted."""
    check_rows(rows)
    check_down(down)
    different = {row: True for row in rows}
    return tuple(sorted(list(different), key=lambda row: sort_key(row, down)))


def place_of(rows, row, *, down=()):
    """Return how many of the sorted rows stand before the row."""
    check_rows(rows)
    # One of the rows is enough to compare the lengths: the rows have one length by now.
    check_rows((*rows[:1], row))
    check_down(down)
    places = [sort_key(one, down) for one in rows]
    if not is_ascending(places):
        raise InvalidOperation("the rows are not sorted, each once")
    place = sort_key(row, down)
    return len([one for one in places if one < place])


def sort_key(row, down):
    """Return a tuple that is in ascending order where the row is in sorted order."""
    return tuple([-part if at in down else part for at, part in enumerate(row)])


def check_rows(rows):
    """Raise InvalidRow if the value is not a tuple of rows of one length."""
    if not isinstance(rows, tuple) or not all([are_integers(row) for row in rows]):
        raise InvalidRow("not a tuple of rows")
    sizes = sorted({len(row) for row in rows})
    if len(sizes) > 1:
        raise InvalidRow("the rows have unlike lengths")
    if sizes and sizes[0] > MAX_SIZE:
        raise InvalidRow("the rows are too long")


def check_down(down):
    """Raise InvalidOperation if the value is not an ascending tuple of positions."""
    if not are_integers(down) or not is_ascending(down):
        raise InvalidOperation("the positions are not an ascending tuple of integers")
    if not all([0 <= at < MAX_SIZE for at in down]):
        raise InvalidOperation("rows do not have such positions")
