"""Neighbours, homes, parts and ways: [0.12], [4.1]."""

import itertools
import unittest

from pagewise.errors import InvalidOperation, InvalidQuery, UnknownName
from pagewise.queries.queries import Query
from pagewise.shapes.neighbours import home, home_of, neighbours, parts, way
from tests.cases import BRIDGE, FAR, LETTERS, RING, SHELL, Case, are_near, odd_except, random_queries

ALONE = Query(("b",), p=("a",), q=("b", "c"), r=("c",))


def all_ways(query):
    """All ways of the query, by going through all tuples of different columns."""
    found = {}
    for size in range(1, len(query) + 1):
        for columns in itertools.permutations(query.columns, size):
            if all(are_near(query, one, two) for one, two in zip(columns, columns[1:])):
                found.setdefault((columns[0], columns[-1]), []).append(columns)
    return found


class Neighbours(Case):
    def test_ordinary(self):
        self.assertEqual(neighbours(FAR), {"x": ("z",), "y": ("z",), "z": ("x", "y")})
        self.assertEqual(list(neighbours(FAR)), ["x", "y", "z"])
        self.assertEqual(neighbours(BRIDGE), neighbours(FAR))
        self.assertEqual(neighbours(ALONE), {"a": (), "b": ("c",), "c": ("b",)})

    def test_random_queries(self):
        for query in random_queries(200, seed=10, most_columns=7):
            expected = {one: tuple(two for two in query.columns if are_near(query, one, two)) for one in query.columns}
            self.assertEqual(neighbours(query), expected)

    def test_changing_the_result(self):
        neighbours(FAR).clear()
        self.assertEqual(neighbours(FAR)["x"], ("z",))

    def test_errors(self):
        for query in odd_except(lambda one: isinstance(one, Query)):
            self.fails(InvalidQuery, neighbours, query)
            self.fails(InvalidQuery, parts, query)
            self.fails(InvalidQuery, home, query, None)
            self.fails(InvalidQuery, home_of, query, None)
            self.fails(InvalidQuery, way, query, None, None)


class Home(Case):
    def test_ordinary(self):
        self.assertEqual([home(FAR, "z"), home(FAR, "x", "y"), home(FAR, "y", "z"), home(FAR)], ["r", None, "s", "r"])
        self.assertEqual([home(FAR, "z", "z", "x"), home_of(FAR, ("z", "x")), home_of(FAR, ())], ["r", "r", "r"])
        self.assertEqual(home(Query(b=("x", "y"), c=("y",), a=("x",)), "y"), "b")

    def test_random_queries(self):
        for query in random_queries(100, seed=11):
            for size in range(len(query) + 1):
                for columns in itertools.product(query.columns, repeat=min(size, 3)):
                    homes = [name for name, own in query.atoms.items() if set(columns) <= set(own)]
                    self.assertEqual(home(query, *columns), min(homes, default=None))
                    self.assertEqual(home_of(query, columns), min(homes, default=None))

    def test_errors(self):
        for columns in odd_except(lambda one: isinstance(one, tuple)):
            self.fails(InvalidOperation, home_of, FAR, columns)
        for column in odd_except(lambda one: one in ("x", "z")):
            self.keeps(UnknownName, "name", column, home, FAR, column)
            self.keeps(UnknownName, "name", column, home_of, FAR, ("x", column, "w"))
            self.keeps(UnknownName, "name", column, home, FAR, "x", "y", column, None)


class Parts(Case):
    def test_ordinary(self):
        self.assertEqual(parts(RING), (("a", "b", "c", "d"),))
        self.assertEqual(parts(ALONE), (("a",), ("b", "c")))
        self.assertEqual(parts(Query(p=("a", "d"), q=("c", "b"), r=("e",))), (("a", "d"), ("b", "c"), ("e",)))
        self.assertEqual(parts(Query.of((), {"t" + one: (one,) for one in LETTERS[:10]})),
                         tuple((one,) for one in LETTERS[:10]))

    def test_random_queries(self):
        for query in random_queries(100, seed=12):
            ways = all_ways(query)
            sets = {tuple(two for two in query.columns if (one, two) in ways) for one in query.columns}
            self.assertEqual(parts(query), tuple(sorted(sets)))


class Ways(Case):
    def test_ordinary(self):
        self.assertEqual(way(FAR, "x", "y"), ("x", "z", "y"))
        self.assertEqual(way(FAR, "y", "x"), ("y", "z", "x"))
        self.assertEqual(way(FAR, "x", "x"), ("x",))
        self.assertEqual(way(RING, "a", "c"), ("a", "b", "c"))
        self.assertEqual(way(RING, "c", "a"), ("c", "b", "a"))
        self.assertEqual(way(SHELL, "b", "c"), ("b", "c"))
        self.assertIs(way(ALONE, "a", "b"), None)
        self.assertEqual(way(ALONE, "a", "a"), ("a",))

    def test_ten_columns(self):
        columns = LETTERS[:10]
        query = Query.of((), {"t" + one: (two, one) for one, two in zip(columns, columns[1:])})
        self.assertEqual([way(query, "a", "j"), way(query, "j", "a")], [columns, columns[::-1]])

    def test_random_queries(self):
        for query in random_queries(200, seed=13, most_columns=6, most_atoms=7):
            ways = all_ways(query)
            for ends in itertools.product(query.columns, repeat=2):
                expected = min(ways.get(ends, [None]), key=lambda one: (len(one), one) if one else ())
                self.assertEqual(way(query, *ends), expected)

    def test_errors(self):
        for column in odd_except(lambda one: one in ("x", "z")):
            self.keeps(UnknownName, "name", column, way, FAR, column, "x")
            self.keeps(UnknownName, "name", column, way, FAR, "x", column)
            self.keeps(UnknownName, "name", column, way, FAR, column, None)


if __name__ == "__main__":
    unittest.main()
