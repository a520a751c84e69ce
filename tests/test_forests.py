"""The forest of a good order: [0.17] for `order`, [8.1], [8.4]."""

import itertools
import unittest

from pagewise.errors import InvalidNumber, InvalidOrder, InvalidQuery
from pagewise.layers.forests import children, ends, layer_columns, open_columns, parents
from pagewise.orders.good import good_orders
from pagewise.queries.queries import Query
from tests.cases import FAR, LETTERS, TRIO, Case, are_near, odd_except, odd_values, random_queries

ORDER = ("x", "z", "y")
TEN = LETTERS[:10]
STAR = Query(("m",), p=("a", "m"), q=("m", "b"), r=("c", "m"))
FREE = Query(("b",), p=("a",), q=("b",), r=("c",))
DICTS = (parents, children, ends, layer_columns)


def some_orders(many, *, seed):
    """Good orders of small queries, with their queries."""
    return [(query, order) for query in random_queries(many, seed=seed, most_columns=6)
            for order in itertools.islice(good_orders(query), 4)]


def earlier(query, order, column):
    return tuple(one for one in order[:order.index(column)] if are_near(query, one, column))


class Forests(Case):
    def test_ordinary(self):
        self.assertEqual(parents(FAR, ORDER), {"x": None, "y": "z", "z": "x"})
        self.assertEqual(children(FAR, ORDER), {"x": ("z",), "y": (), "z": ("y",)})
        self.assertEqual(ends(FAR, ORDER), {"x": (), "y": ("s",), "z": ("r",)})
        self.assertEqual(layer_columns(FAR, ORDER), {"x": ("x",), "y": ("z", "y"), "z": ("x", "z")})

    def test_several_children(self):
        order = ("m", "c", "a", "b")
        self.assertEqual(children(STAR, order), {"a": (), "b": (), "c": (), "m": ("c", "a", "b")})
        self.assertEqual(parents(STAR, order), {"a": "m", "b": "m", "c": "m", "m": None})
        self.assertEqual(ends(STAR, order), {"a": ("p",), "b": ("q",), "c": ("r",), "m": ()})
        self.assertEqual(open_columns(STAR, order, 1), ("c", "a", "b"))

    def test_only_roots(self):
        order = ("b", "c", "a")
        self.assertEqual(parents(FREE, order), {"a": None, "b": None, "c": None})
        self.assertEqual(children(FREE, order), {"a": (), "b": (), "c": ()})
        self.assertEqual([open_columns(FREE, order, many) for many in range(4)],
                         [("b", "c", "a"), ("c", "a"), ("a",), ()])

    def test_several_atoms_end_at_a_column(self):
        query = Query(("x",), c=("y", "x"), a=("x", "y"), b=("y",), d=("x",))
        self.assertEqual(ends(query, ("x", "y")), {"x": ("d",), "y": ("a", "b", "c")})

    def test_all_columns_together(self):
        query = Query.of((), {"r": TEN})
        order = TEN[::-1]
        self.assertEqual(parents(query, order), {**dict(zip(TEN, TEN[1:])), "j": None})
        self.assertEqual(layer_columns(query, order)["a"], order)
        self.assertEqual(ends(query, order)["a"], ("r",))

    def test_by_words(self):
        for query, order in some_orders(200, seed=80):
            above = {column: (earlier(query, order, column) or (None,))[-1] for column in query.columns}
            self.assertEqual(parents(query, order), above)
            self.assertEqual(children(query, order), {column: tuple(one for one in order if above[one] == column)
                                                      for column in query.columns})
            self.assertEqual(layer_columns(query, order), {column: earlier(query, order, column) + (column,)
                                                           for column in query.columns})
            last = {name: max(own, key=order.index) for name, own in query.atoms.items()}
            self.assertEqual(ends(query, order), {column: tuple(name for name in sorted(last) if last[name] == column)
                                                  for column in query.columns})
            for many in range(len(order) + 1):
                free = tuple(one for one in order[many:] if above[one] in (None, *order[:many]))
                self.assertEqual(open_columns(query, order, many), free)

    def test_keys_ascend(self):
        for query, order in some_orders(40, seed=81):
            for function in DICTS:
                self.assertEqual(list(function(query, order)), list(query.columns))

    def test_what_is_returned_is_new(self):
        for function in DICTS:
            first = function(FAR, ORDER)
            first["x"] = "changed"
            self.assertNotEqual(function(FAR, ORDER), first)

    def test_open_columns(self):
        self.assertEqual([open_columns(FAR, ORDER, many) for many in range(4)], [("x",), ("z",), ("y",), ()])


class Errors(Case):
    def test_wrong_query(self):
        for query in odd_except(lambda one: isinstance(one, Query)):
            for order in (ORDER, None):
                for function in DICTS:
                    self.fails(InvalidQuery, function, query, order)
                self.fails(InvalidQuery, open_columns, query, order, -1)

    def test_wrong_order(self):
        for order in (("x", "y", "z"), ("z", "x", "y"), ("x", "z"), list(ORDER), *odd_values()):
            for function in DICTS:
                self.fails(InvalidOrder, function, FAR, order)
            for many in (1, -1, None):
                self.fails(InvalidOrder, open_columns, FAR, order, many)
        for function in DICTS:
            self.fails(InvalidOrder, function, TRIO, ("x", "y", "z"))

    def test_wrong_number(self):
        for many in (4, -1, *odd_except(lambda one: one in (0, 1, 2) and not isinstance(one, bool))):
            self.keeps(InvalidNumber, "value", many, open_columns, FAR, ORDER, many)


if __name__ == "__main__":
    unittest.main()
