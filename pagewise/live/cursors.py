"""Cursors, which stay at their answers while other rows come and go."""

from pagewise.base.rows import is_integer
from pagewise.errors import InvalidNumber, InvalidOperation
from pagewise.live.live import Live
from pagewise.pages.pages import MAX_SIZE
from pagewise.pages.places import answer_at, answers_from, check_shown_row, told_place


class Cursor:
    """A place among the answers of a live object: the first one that does not stand before the anchor."""

    def __init__(self, live):
        if not isinstance(live, Live):
            raise InvalidOperation("not a live object")
        self._live = live
        self._anchor = None
        self._anchor_at(0)

    @property
    def anchor(self):
        """The shown row that is the anchor, or None for the end."""
        return self._anchor

    @property
    def row(self):
        """The answer at which the cursor stands, or None at the end."""
        counts, place = self._live._moment.counts, place_of_anchor(self._live, self._anchor)
        return answer_at(counts, place) if place < counts.number else None

    @property
    def position(self):
        """The number of answers before the place of the cursor."""
        return place_of_anchor(self._live, self._anchor)

    def onward(self):
        """Go to the answer behind the one at which the cursor stands, and return it, or None for the end."""
        return self._anchor_at(self.position + 1)

    def back(self):
        """Go to the last answer before the place of the cursor, and return it, or None if there is none."""
        return self._anchor_at(self.position - 1) if self.position > 0 else None

    def at(self, position):
        """Go to the answer at a position, or to the end, and return the row there."""
        if not is_integer(position) or not 0 <= position <= self._live.total:
            raise InvalidNumber(position)
        return self._anchor_at(position)

    def to(self, row):
        """Make a shown row the anchor, and return the row at which the cursor stands then."""
        check_shown_row(self._live._moment.counts, row)
        self._anchor = row
        return self.row

    def to_end(self):
        """Go to the end."""
        self._anchor = None
        return self.row

    def take(self, *, size=10):
        """Return the answers from the place of the cursor on, and go to the one behind them."""
        if not is_integer(size) or not 1 <= size <= MAX_SIZE:
            raise InvalidNumber(size)
        place = self.position
        self._anchor_at(place + size)
        return answers_from(self._live._moment.counts, place, size)

    def rest(self):
        """Yield the answers from the place of the cursor on, which goes on behind each one."""
        row = self.row
        while row is not None:
            self.onward()
            yield row
            row = self.row

    def twin(self):
        """Return another cursor of the same live object with the same anchor."""
        other = Cursor(self._live)
        other._anchor = self._anchor
        return other

    def _anchor_at(self, position):
        counts = self._live._moment.counts
        self._anchor = answer_at(counts, position) if position < counts.number else None
        return self._anchor

    def __eq__(self, other):
        return (isinstance(other, Cursor) and self._live._mark == other._live._mark
                and self._anchor == other._anchor)

    def __str__(self):
        return f"cursor at {place_of_anchor(self._live, self._anchor)} of {self._live._moment.counts.number}"


def place_of_anchor(live, anchor):
    """Return how many answers stand before an anchor."""
    counts = live._moment.counts
    return counts.number if anchor is None else told_place(counts, anchor)[0]
