"""Groups and sums over the answers of pages, without making the answers."""

from pagewise.base.rows import is_integer
from pagewise.errors import InvalidNumber, InvalidOperation, InvalidRow, UnknownName
from pagewise.pages.pages import Pages
from pagewise.pages.places import answer_at, check_values, other_side, shelf_at, told_place
from pagewise.tables.answers import picked, places_of

MAX_PIECES = 100


def groups(pages, values=()):
    """Yield the values of the next shown column behind these values, each with the number of its answers."""
    check_pages(pages)
    counts = pages._counts
    check_values(counts, values)
    if len(values) == len(counts.frame.leads):
        raise InvalidRow("there is no next shown column")
    _, number = told_place(counts, values)
    if number > 0:
        shelf = shelf_at(counts, len(values), other_side(counts, values))
        sign = counts.frame.signs[len(values)]
        for value in shelf.ranked:
            yield (sign * value, number // shelf.weight * shelf.numbers[value])


def sum_of(pages, column, values=()):
    """Return the sum of the values of a shown column in the answers that begin with the values."""
    return sum([value * number for value, number in tally(pages, column, values).items()])


def extremes(pages, column, values=()):
    """Return the least and the greatest value of a shown column in these answers, or None."""
    found = list(tally(pages, column, values))
    return (found[0], found[-1]) if found else None


def tally(pages, column, values=()):
    """Return a dict from the values of a shown column in these answers to the numbers of answers."""
    check_pages(pages)
    counts = pages._counts
    shown = counts.frame.asked.shown
    if column not in shown:
        raise UnknownName(column)
    check_values(counts, values)
    place = shown.index(column)
    _, number = told_place(counts, values)
    if number == 0:
        return {}
    if place < len(values):
        return {values[place]: number}
    found = {counts.frame.signs[place] * row[0]: many
             for row, many in tally_inside(counts, values, number, place).items()}
    return {value: found[value] for value in sorted(list(found))}


def middle(pages, values=()):
    """Return the answer in the middle of those that begin with the values, or None."""
    check_pages(pages)
    check_values(pages._counts, values)
    before, number = told_place(pages._counts, values)
    return answer_at(pages._counts, before + (number - 1) // 2) if number > 0 else None


def cuts(pages, pieces):
    """Return the positions that cut the answers into pieces of nearly one length."""
    check_pages(pages)
    if not is_integer(pieces) or not 1 <= pieces <= MAX_PIECES:
        raise InvalidNumber(pieces)
    return tuple([pages.total * at // pieces for at in range(pieces + 1)])


def check_pages(pages):
    """Raise InvalidOperation if the value is not a Pages."""
    if not isinstance(pages, Pages):
        raise InvalidOperation("not pages")


def tally_inside(counts, values, number, place):
    """Return a dict from the values inside of a column behind the told ones, each in a tuple, to numbers of answers."""
    leads = counts.frame.leads
    # Only the columns above this one that are not told decide how its values are spread.
    path = [place]
    while leads[path[0]] and leads[path[0]][-1] >= len(values):
        path = [leads[path[0]][-1], *path]
    level = {picked(other_side(counts, values), leads[path[0]]): number}
    for at, behind in zip(path, path[1:]):
        level = spread(counts, level, at, leads[behind])
    return spread(counts, level, place, [place])


def spread(counts, level, at, wanted):
    """Return how the answers with some rows of other layer columns of a column are spread over wanted places."""
    shelves = counts.shelves[counts.frame.sequence[at]]
    spots = places_of(wanted, [*counts.frame.leads[at], at])
    found = {}
    for first, number in level.items():
        shelf = shelves[first]
        each = number // shelf.weight
        for value in shelf.ranked:
            part = picked((*first, value), spots)
            found[part] = found.get(part, 0) + each * shelf.numbers[value]
    return found
