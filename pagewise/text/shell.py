"""A shell: lines of text that are done at a desk."""

from pagewise.desk.desk import Desk
from pagewise.errors import InvalidOperation
from pagewise.text.commands import answer_to


class Shell:
    """A desk at which commands are done, and the lines that were done there."""

    def __init__(self, desk=None):
        if desk is not None and not isinstance(desk, Desk):
            raise InvalidOperation("not a desk")
        self._place = Desk() if desk is None else desk
        self._lines = []

    @property
    def desk(self):
        """The desk itself."""
        return self._place

    @property
    def log(self):
        """All lines that were done without an error, in their order."""
        return tuple(self._lines)

    def run(self, line):
        """Do a command, and return its answer."""
        answer = answer_to(self._place, line)
        self._lines.append(line)
        return answer

    def run_all(self, lines):
        """Yield the answers of the commands of a tuple, each of which is done when its answer is asked for."""
        if not isinstance(lines, tuple):
            raise InvalidOperation("the lines are not a tuple")
        for line in lines:
            yield self.run(line)

    def __len__(self):
        return len(self._lines)
