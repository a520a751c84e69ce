"""Values and checks that several tests use."""

import itertools
import random
import unittest

from pagewise.desk.desk import Desk
from pagewise.keys.keys import KeyedPages
from pagewise.orders.good import good_orders
from pagewise.queries.queries import Query
from pagewise.shapes.rings import rings
from pagewise.tables.answers import answers
from pagewise.text.selects import Select
from pagewise.text.shell import Shell

FAR = Query(("x", "z", "y"), r=("x", "z"), s=("z", "y"))
ROWS = {"r": ((1, 1), (1, 2), (2, 2)), "s": ((1, 5), (2, 5), (2, 6))}
TRIO = FAR.with_shown("x", "y", "z")
BRIDGE = FAR.with_shown("x", "y")
RING = Query((), p=("a", "b"), q=("b", "c"), r=("c", "d"), s=("d", "a"))
SHELL = Query((), p=("a", "b"), q=("b", "c"), r=("a", "c"))

BIG = 10 ** 40 - 1
LETTERS = tuple("abcdefghijklmnopqrstuvwxyz")


def nested(kind, depth):
    value = kind()
    for _ in range(depth - 1):
        value = (value,) if kind is tuple else [value] if kind is list else {"x": value}
    return value


def odd_values():
    """Values of all kinds; those that fit are left out by each test."""
    return [
        None, True, False, 0, 1, 2, 7, 10, 11, -1, BIG, -BIG,
        "", "x", "z", "r", "X", "xx", "not a name", "x\n", "__init__",
        (), ("x",), ("x", "z"), ("x", "x"), ("x", True), (1,), (1, 2), (2, 1), (True,), (None,), (("x",),),
        ([],), ({},), ("ring", ("a",)), ("trio", []), (FAR,),
        [], ["x"], [1, 2], [[]], [("x", "z")],
        {}, {"x": 1}, {"r": ("x",)}, {1: 2}, {None: ()}, {True: 1}, {("x",): 1}, {"r": [], "s": ()},
        {"r": {}, "s": None},
        nested(tuple, 10), nested(list, 10), nested(dict, 10),
        FAR, RING, ROWS, FAR.atoms, answers(FAR, ROWS), rings(RING), FAR.having("x"),
        KeyedPages(FAR, ROWS, ()), Desk(), Desk().trial(), Select(FAR), Shell(), Shell().run_all(()),
    ]


def odd_except(fits):
    """The odd values that the test says do not fit."""
    return [value for value in odd_values() if not fits(value)]


def is_whole(value):
    return type(value) is int


class Case(unittest.TestCase):
    """A test case with a check of errors."""

    def fails(self, error, call, *passed, **named):
        """The call raises exactly this error, which is returned."""
        with self.assertRaises(error) as caught:
            call(*passed, **named)
        self.assertIs(type(caught.exception), error)
        return caught.exception

    def keeps(self, error, name, value, call, *passed, **named):
        """The call raises exactly this error, which keeps this very value."""
        kept = getattr(self.fails(error, call, *passed, **named), name)
        if value is not kept:
            self.assertEqual((type(kept), kept), (type(value), value))

    def stays_lazy(self, error, generator, *passed):
        """The error comes with the first result, not with the call."""
        results = generator(*passed)
        return self.fails(error, next, results)


def random_query(chance, most_columns, most_atoms):
    """A query with some columns and atoms; in half of them no atom has more than two columns."""
    columns = LETTERS[:max(chance.randint(1, most_columns), chance.randint(1, most_columns))]
    sizes = chance.choice(((2, 2, 2, 2, 2, 2, 1), (2, 2, 2, 3, 3, 4, 1)))
    atoms = {}
    for at in range(chance.randint(1, most_atoms)):
        atoms["t" + LETTERS[at]] = tuple(chance.sample(columns, min(len(columns), chance.choice(sizes))))
    used = sorted({column for own in atoms.values() for column in own})
    shown = tuple(chance.sample(used, chance.randint(0, len(used))))
    down = tuple(chance.sample(shown, chance.randint(0, len(shown))))
    return Query.of(shown, atoms, down=down)


def random_queries(many, *, seed, most_columns=5, most_atoms=5):
    """The same queries for the same seed."""
    chance = random.Random(seed)
    return [random_query(chance, most_columns, most_atoms) for _ in range(many)]


def random_tables(chance, query, *, most_rows=5, values=3):
    """Tables of the query with few values, so that rows fit together."""
    tables = {}
    for name, columns in query.atoms.items():
        rows = [tuple([chance.randint(0, values - 1) for _ in columns]) for _ in range(chance.randint(0, most_rows))]
        tables[name] = tuple(sorted(set(rows)))
    return tables


def are_near(query, first, second):
    """Whether two columns are neighbours, by the words of the document."""
    return first != second and any(first in own and second in own for own in query.atoms.values())


def have_home(query, columns):
    """Whether some atom has all of the columns."""
    return any(set(columns) <= set(own) for own in query.atoms.values())


def all_orders(query):
    """All orders of the query, ascending."""
    return [query.shown + behind for behind in itertools.permutations(query.hidden)]


def good_by_words(query, order):
    """Whether an order is good, by the words of the document."""
    return all(have_home(query, [column] + [one for one in order[:at] if are_near(query, one, column)])
               for at, column in enumerate(order))


def good_cases(many, *, seed, most_columns=6, most_orders=3):
    """Small queries, tables of them with answers in most cases, and some of their good orders."""
    chance = random.Random(seed)
    found = []
    for query in random_queries(many, seed=seed, most_columns=most_columns):
        tables = random_tables(chance, query, most_rows=9, values=chance.choice((2, 2, 3)))
        found += [(query, tables, order) for order in itertools.islice(good_orders(query), most_orders)]
    return found


def wide_query(*, down=()):
    """Ten atoms with one column each, all shown."""
    return Query.of(LETTERS[:10], {"t" + column: (column,) for column in LETTERS[:10]}, down=down)


def wide_tables():
    """A thousand rows for each atom of a wide query: the numbers from 0 to 999."""
    return {"t" + column: tuple((number,) for number in range(1000)) for column in LETTERS[:10]}
