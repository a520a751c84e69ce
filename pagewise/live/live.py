"""Live tables: rows are put in and taken out while pages of them stay right."""

from pagewise.base.rows import is_integer, is_row
from pagewise.errors import InvalidEdit, InvalidNumber, InvalidOperation, InvalidRow, NothingToUndo
from pagewise.live.edits import DROP, PUT, edited, edits_between, is_edit, reversed_edits
from pagewise.pages.pages import Pages
from pagewise.pages.places import answer_of, checked_counts, has_answer, position_in
from pagewise.queries.queries import check_query


class Moment:
    """What a live object is at some time. It never changes, so the object can go back to it."""

    def __init__(self, counts, done, undone):
        self.counts = counts
        self.done = done
        # The step that was undone last stands at the end.
        self.undone = undone


class Mark:
    """A mark is equal to itself only. It tells a live object from another one with equal tables."""


class Live:
    """Tables that change, and pages of them."""

    def __init__(self, query, *, tables=None):
        check_query(query)
        given = {name: () for name in query.atoms} if tables is None else tables
        self._moment = Moment(checked_counts(query, given, None), (), ())
        self._mark = Mark()

    @property
    def query(self):
        """The query."""
        return self._moment.counts.frame.asked

    @property
    def tables(self):
        """A dict from the atoms to their present rows."""
        return dict(self._moment.counts.contents)

    @property
    def total(self):
        """The present number of answers."""
        return self._moment.counts.number

    @property
    def steps(self):
        """The number of steps that can be undone."""
        return len(self._moment.done)

    @property
    def log(self):
        """The steps that can be undone, the oldest one first."""
        return self._moment.done

    def put(self, atom, row):
        """Put a row into an atom, and return whether it was not there."""
        self._check_row(atom, row)
        return self._step(((PUT, atom, row),)) > 0

    def drop(self, atom, row):
        """Take a row out of an atom, and return whether it was there."""
        self._check_row(atom, row)
        return self._step(((DROP, atom, row),)) > 0

    def change(self, edits):
        """Make the edits as one step, and return how many of them changed something."""
        if not isinstance(edits, tuple) or not all([is_edit(self.query, edit) for edit in edits]):
            raise InvalidEdit("not a tuple of edits")
        return self._step(edits)

    def undo(self, *, many=1):
        """Undo the last steps, and return how many can be undone then."""
        done, undone = self._moment.done, self._moment.undone
        check_many(many, len(done))
        kept, went = done[:len(done) - many], done[len(done) - many:]
        self._go(reversed_edits(went), kept, undone + tuple(reversed(list(went))))
        return len(kept)

    def redo(self, *, many=1):
        """Do the last undone steps again, and return how many can be undone then."""
        done, undone = self._moment.done, self._moment.undone
        check_many(many, len(undone))
        kept, came = undone[:len(undone) - many], tuple(reversed(list(undone[len(undone) - many:])))
        self._go([edit for step in came for edit in step], done + came, kept)
        return len(done) + many

    def position_of(self, row):
        """Return the number of answers that stand before a shown row."""
        return position_in(self._moment.counts, row)

    def pages(self):
        """Return the pages of the present tables."""
        return Pages(self.query, self._moment.counts)

    def trial(self):
        """Return a trial: at the end of its block all is as at its beginning, but for what is kept."""
        return Trial(self)

    def attempt(self, action, *, keep=False):
        """Return what the action returns in the block of a trial, which is kept at its end if `keep` is True."""
        with self.trial() as trial:
            result = action(self)
            if keep is True:
                trial.keep()
        return result

    def _check_row(self, atom, row):
        if not is_row(len(self.query.atom(atom)), row):
            raise InvalidRow("not a row of the atom")

    def _step(self, edits):
        counts, done = self._moment.counts, self._moment.done
        tables, effective = edited(counts.contents, edits)
        # Edits that change nothing are no step, so they do not forget the undone ones.
        if effective:
            self._moment = Moment(counts.on(tables), (*done, effective), ())
        return len(effective)

    def _go(self, edits, done, undone):
        counts = self._moment.counts
        tables, _ = edited(counts.contents, edits)
        self._moment = Moment(counts.on(tables), done, undone)

    def __getitem__(self, at):
        return answer_of(self._moment.counts, at)

    def __contains__(self, value):
        return has_answer(self._moment.counts, value)

    def __iter__(self):
        raise TypeError("the answers are asked for by their positions")

    def __eq__(self, other):
        return (isinstance(other, Live) and self._moment.counts.frame.asked == other._moment.counts.frame.asked
                and self._moment.counts.contents == other._moment.counts.contents)

    def __str__(self):
        return f"live pages of {self._moment.counts.number} answers, {len(self._moment.done)} steps"


class Block:
    """The block of a trial: where it began, to what it leads at its end, and the block of the same trial around it."""

    def __init__(self, begun, outer):
        self.begun = begun
        self.end = begun
        self.outer = outer


class Trial:
    """A block in which all can be tried, and nothing lasts that is not kept."""

    def __init__(self, live):
        self.live = live
        self._block = None

    def keep(self):
        """Let the present tables last, and return the number of edits that lead to them from the beginning."""
        block = self._block
        if block is None:
            raise InvalidOperation("there is no block whose tables could be kept")
        begun, counts = block.begun, self.live._moment.counts
        step = edits_between(begun.counts.contents, counts.contents)
        block.end = Moment(counts, (*begun.done, step), ()) if step else begun
        return len(step)

    def __enter__(self):
        self._block = Block(self.live._moment, self._block)
        return self

    def __exit__(self, kind, value, trace):
        self.live._moment = self._block.end
        self._block = self._block.outer


def check_many(many, most):
    """Raise an error if the value is no number of steps, or there are not so many."""
    if not is_integer(many) or many < 0:
        raise InvalidNumber(many)
    if many > most:
        raise NothingToUndo(many)
