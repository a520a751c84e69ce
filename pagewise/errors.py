"""The errors of the package."""


class PageError(ValueError):
    """A value cannot be used; the message tells why."""


class InvalidQuery(PageError):
    """A value is not a query, or there is no such query."""


class InvalidTables(PageError):
    """A value is not the tables of a query."""


class InvalidOrder(PageError):
    """A value is not an order of columns that can be used here."""


class InvalidRow(PageError):
    """A value is not a row that can be used here."""


class InvalidKey(PageError):
    """A value is not a key of a query, or the key does not hold."""


class InvalidOperation(PageError):
    """A call cannot be made with this value."""


class InvalidEdit(PageError):
    """A value is not an edit, or the edit is not possible."""


class ParseError(PageError):
    """A value is not the text of anything."""


class InvalidCommand(PageError):
    """A value is not a command."""


class InvalidNumber(IndexError):
    """A number is not one of those that can be used here."""

    def __init__(self, value):
        IndexError.__init__(self, "this number cannot be used here")
        self.value = value


class UnknownName(KeyError):
    """There is nothing with this name."""

    def __init__(self, name):
        KeyError.__init__(self, "there is nothing with this name")
        self.name = name


class TooMany(OverflowError):
    """There would be more than the limit."""

    def __init__(self, limit):
        OverflowError.__init__(self, "there would be more than the limit")
        self.limit = limit


class Unsorted(ArithmeticError):
    """There is no good order; the witness shows it."""

    def __init__(self, witness):
        ArithmeticError.__init__(self, "there is no good order")
        self.witness = witness


class NothingToUndo(LookupError):
    """There are fewer steps than these."""

    def __init__(self, many):
        LookupError.__init__(self, "there are not so many steps")
        self.many = many
