"""A desk: tables and views under names, edited in steps that can be undone."""

from pagewise.base.rows import is_integer
from pagewise.desk.edits import Stock, behind_edit, has_name
from pagewise.errors import InvalidEdit, InvalidNumber, UnknownName, Unsorted
from pagewise.layers.layers import total
from pagewise.live.live import Block, check_many
from pagewise.orders.beginnings import beginning_paper
from pagewise.orders.good import order_paper
from pagewise.pages.pages import Pages

MAX_NAMES = 20
MAX_KEPT = 1000


class Scene:
    """What a desk is at some time: what stands on it, and what stood there before each step. It never changes."""

    def __init__(self, stock, done, undone, most):
        self.stock = stock
        # No more than the most steps can be undone, so the oldest ones are forgotten.
        self.done = done[max(0, len(done) - most):]
        # What the undone steps lead to; the step that was undone last stands at the end.
        self.undone = undone
        self.most = most


class Desk:
    """Tables and views under names."""

    def __init__(self, *, kept=100):
        check_kept(kept)
        self._scene = Scene(Stock({}, {}, {}), (), (), kept)

    @property
    def names(self):
        """The names of all tables and views, ascending."""
        return names_on(self._scene.stock)

    @property
    def tables(self):
        """A dict from the tables to their rows."""
        contents = self._scene.stock.contents
        return {name: contents[name] for name in sorted(list(contents))}

    @property
    def views(self):
        """A dict from the views to their queries."""
        queries = self._scene.stock.queries
        return {name: queries[name] for name in sorted(list(queries))}

    @property
    def steps(self):
        """The number of steps that can be undone."""
        return len(self._scene.done)

    @property
    def kept(self):
        """How many steps can be undone at most."""
        return self._scene.most

    @kept.setter
    def kept(self, value):
        self.keep(value)

    def keep(self, kept):
        """Let so many steps be undone at most."""
        check_kept(kept)
        scene = self._scene
        self._scene = Scene(scene.stock, scene.done, scene.undone, kept)

    def do(self, *edits):
        """Make the edits as one step, and return how many steps can be undone."""
        return self.do_all(edits)

    def do_all(self, edits):
        """Make the edits of a tuple as one step, and return how many steps can be undone."""
        if not isinstance(edits, tuple):
            raise InvalidEdit("the edits are not a tuple")
        scene = self._scene
        stock = scene.stock
        for edit in edits:
            stock = behind_edit(stock, edit)
            if len(names_on(stock)) > MAX_NAMES:
                raise InvalidEdit("there would be too many names")
        # Without edits there is no step, so the undone ones stay.
        if edits:
            self._scene = Scene(stock, (*scene.done, scene.stock), (), scene.most)
        return self.steps

    def undo(self, *, many=1):
        """Undo the last steps, and return how many can be undone then."""
        scene = self._scene
        check_many(many, len(scene.done))
        left = len(scene.done) - many
        stocks = [*scene.done, scene.stock][left:]
        undone = scene.undone + tuple(reversed(list(stocks[1:])))
        self._scene = Scene(stocks[0], scene.done[:left], undone, scene.most)
        return self.steps

    def redo(self, *, many=1):
        """Do the last undone steps again, and return how many steps can be undone then."""
        scene = self._scene
        check_many(many, len(scene.undone))
        left = len(scene.undone) - many
        stocks = [scene.stock] + list(reversed(list(scene.undone[left:])))
        self._scene = Scene(stocks[-1], scene.done + tuple(stocks[:-1]), scene.undone[:left], scene.most)
        return self.steps

    def width(self, name):
        """Return the width of a table."""
        widths = self._scene.stock.widths
        if not isinstance(name, str) or name not in widths:
            raise UnknownName(name)
        return widths[name]

    def pages(self, name):
        """Return the pages of a view."""
        query = self._view(name)
        return Pages(query, self._tables_of(query))

    def paper(self, name):
        """Return any order paper of a view."""
        return order_paper(self._view(name))

    def total_of(self, name):
        """Return the number of answers of a view, by any good sort order of its shown columns."""
        query = self._view(name)
        paper = beginning_paper(query, ())
        word, columns = paper
        if word != "sort":
            raise Unsorted(paper)
        return total(query.with_shown_of(columns), self._tables_of(query))

    def trial(self):
        """Return a trial: at the end of its block all of the desk is as at its beginning."""
        return DeskTrial(self)

    def attempt(self, action):
        """Return what the action returns in the block of a trial."""
        with self.trial():
            result = action(self)
        return result

    def twin(self):
        """Return an independent desk in the same state."""
        other = Desk()
        other._scene = self._scene
        return other

    def _view(self, name):
        queries = self._scene.stock.queries
        if not isinstance(name, str) or name not in queries:
            raise UnknownName(name)
        return queries[name]

    def _tables_of(self, query):
        contents = self._scene.stock.contents
        return {name: contents[name] for name in query.atoms}

    def __contains__(self, value):
        return isinstance(value, str) and has_name(self._scene.stock, value)

    def __len__(self):
        return len(names_on(self._scene.stock))

    def __eq__(self, other):
        return (isinstance(other, Desk) and self._scene.stock.widths == other._scene.stock.widths
                and self._scene.stock.contents == other._scene.stock.contents
                and self._scene.stock.queries == other._scene.stock.queries)

    def __str__(self):
        return f"desk of {len(self._scene.stock.widths)} tables, {len(self._scene.stock.queries)} views"


class DeskTrial:
    """A block at a desk in which all can be tried, and nothing lasts."""

    def __init__(self, desk):
        self._place = desk
        self._block = None

    def __enter__(self):
        self._block = Block(self._place._scene, self._block)
        return self._place

    def __exit__(self, kind, value, trace):
        self._place._scene = self._block.begun
        self._block = self._block.outer


def names_on(stock):
    """Return the names of all tables and views, ascending."""
    return tuple(sorted([*stock.widths, *stock.queries]))


def check_kept(kept):
    """Raise InvalidNumber if the value cannot be the most steps that can be undone."""
    if not is_integer(kept) or not 0 <= kept <= MAX_KEPT:
        raise InvalidNumber(kept)
