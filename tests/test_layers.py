"""Layers and totals: [0.14], [0.17] for `order`, [8.2], [8.3], [8.4]."""

import itertools
import math
import unittest

from pagewise.errors import InvalidOrder, InvalidQuery, InvalidTables, Unsorted
from pagewise.layers.forests import children, layer_columns, open_columns, parents
from pagewise.layers.layers import is_layers, layers, total
from pagewise.queries.queries import Query
from pagewise.shapes.witnesses import is_witness
from pagewise.tables.answers import answers, count_answers
from tests.cases import (BRIDGE, FAR, LETTERS, RING, ROWS, SHELL, TRIO, Case, good_cases, odd_except, odd_values,
                         wide_query, wide_tables)

ORDER = ("x", "z", "y")
FOUND = {"x": {(1,): 3, (2,): 2}, "y": {(1, 5): 1, (2, 5): 1, (2, 6): 1}, "z": {(1, 1): 1, (1, 2): 2, (2, 2): 2}}
CHAIN = Query.of(LETTERS[:10], {"t" + one: (one, two) for one, two in zip(LETTERS, LETTERS[1:10])})


def layers_by_words(query, tables, order):
    """The layers, row by row as the document says it, from the last column of the order to the first."""
    own, below, found = layer_columns(query, order), children(query, order), {}
    for column in reversed(order):
        home = next(name for name in query.atoms if set(own[column]) <= set(query.atom(name)))
        rows = {tuple(row[query.atom(home).index(one)] for one in own[column]) for row in tables[home]}
        found[column] = {}
        for row in sorted(rows):
            told = dict(zip(own[column], row))
            if all(any(all(told.get(one, value) == value for one, value in zip(query.atom(name), other))
                       for other in tables[name]) for name in query.having(column)):
                number = math.prod(factor(query, own, found, child, told) for child in below[column])
                if number > 0:
                    found[column][row] = number
    return found


def factor(query, own, found, column, told):
    """The sum for a shown column of the numbers of the rows with the told values, for a hidden one 1 or 0."""
    numbers = [number for row, number in found[column].items()
               if all(told.get(one, value) == value for one, value in zip(own[column], row))]
    return sum(numbers) if column in query.shown else min(len(numbers), 1)


class Layers(Case):
    def test_ordinary(self):
        self.assertEqual(layers(FAR, ROWS, ORDER), FOUND)
        self.assertEqual(layers(FAR.with_shown("x", "z"), ROWS, ORDER), {**FOUND, "x": {(1,): 2, (2,): 1},
                                                                         "z": {(1, 1): 1, (1, 2): 1, (2, 2): 1}})

    def test_rows_that_are_part_of_no_solution(self):
        tables = {"r": ((1, 1), (1, 3), (4, 3)), "s": ((1, 5), (2, 6))}
        found = layers(FAR, tables, ORDER)
        self.assertEqual(found, {"x": {(1,): 1}, "y": {(1, 5): 1, (2, 6): 1}, "z": {(1, 1): 1}})

    def test_every_atom_with_the_column_lets_by(self):
        query = Query(("x", "y"), r=("x",), s=("y", "x"), t=("x", "w"))
        tables = {"r": ((1,), (2,), (3,)), "s": ((7, 1), (7, 3), (8, 1)), "t": ((1, 5), (2, 5), (3, 6), (4, 6))}
        self.assertEqual(layers(query, tables, ("x", "y", "w")),
                         {"w": {(1, 5): 1, (2, 5): 1, (3, 6): 1, (4, 6): 1}, "x": {(1,): 2, (3,): 1},
                          "y": {(1, 7): 1, (1, 8): 1, (3, 7): 1}})

    def test_hidden_columns(self):
        # z is hidden between x and y in the forest, but stands behind them in the order.
        query = Query(("x", "y"), r=("x", "y"), s=("y", "x", "z"), t=("z", "w"))
        tables = {"r": ((1, 1), (1, 2)), "s": ((1, 1, 3), (1, 1, 4), (2, 1, 5)), "t": ((3, 0), (3, 9), (4, 0))}
        found = layers(query, tables, ("x", "y", "z", "w"))
        self.assertEqual(found, {"w": {(3, 0): 1, (3, 9): 1, (4, 0): 1}, "x": {(1,): 1}, "y": {(1, 1): 1},
                                 "z": {(1, 1, 3): 1, (1, 1, 4): 1}})

    def test_tables_without_rows(self):
        none = {"r": (), "s": ()}
        self.assertEqual(layers(FAR, none, ORDER), {"x": {}, "y": {}, "z": {}})
        self.assertEqual(layers(FAR, {**ROWS, "r": ()}, ORDER), {**FOUND, "x": {}, "z": {}})
        self.assertEqual(layers(FAR, {**ROWS, "s": ()}, ORDER), {"x": {}, "y": {}, "z": {}})

    def test_directions_do_not_matter(self):
        low = FAR.with_shown("x", "z", "y", down=("z",))
        for query in (low, ~FAR):
            found = layers(query, ROWS, ORDER)
            self.assertEqual(found, FOUND)
            self.assertEqual([list(layer) for layer in found.values()], [list(layer) for layer in FOUND.values()])

    def test_by_words(self):
        rows = 0
        for query, tables, order in good_cases(400, seed=82):
            found = layers(query, tables, order)
            self.assertEqual(found, layers_by_words(query, tables, order))
            self.assertIs(is_layers(query, tables, order, found), True)
            rows += sum(map(len, found.values()))
        self.assertGreater(rows, 1000)

    def test_keys_ascend(self):
        for query, tables, order in good_cases(100, seed=83):
            found = layers(query, tables, order)
            self.assertEqual(list(found), list(query.columns))
            self.assertTrue(all(list(layer) == sorted(layer) for layer in found.values()))

    def test_what_is_returned_is_new(self):
        first = layers(FAR, ROWS, ORDER)
        first["x"][(1,)] = 0
        first.pop("y")
        self.assertEqual(layers(FAR, ROWS, ORDER), FOUND)
        self.assertEqual(ROWS, {"r": ((1, 1), (1, 2), (2, 2)), "s": ((1, 5), (2, 5), (2, 6))})

    def test_the_order_of_the_atoms_does_not_matter(self):
        self.assertEqual(layers(FAR, dict(reversed(ROWS.items())), ORDER), FOUND)


class IsLayers(Case):
    def changed(self, column, row, number):
        return {**FOUND, column: {**FOUND[column], row: number}}

    def test_papers_of_others(self):
        turned = {column: dict(reversed(layer.items())) for column, layer in reversed(FOUND.items())}
        self.assertIs(is_layers(FAR, ROWS, ORDER, turned), True)

    def test_no_layers(self):
        for value in (self.changed("x", (1,), 4), self.changed("x", (3,), 1), self.changed("z", (1, 1), True),
                      self.changed("z", (2, 1), 0), {**FOUND, "w": {}}, {"x": FOUND["x"]}, {**FOUND, "y": {}},
                      {**FOUND, "y": tuple(FOUND["y"])}, {**FOUND, "y": None}, list(FOUND), tuple(FOUND.items()), {}):
            self.assertIs(is_layers(FAR, ROWS, ORDER, value), False)
        for part in (True, "1", None, (1,)):
            value = {**FOUND, "z": {(part, 1): 1, (1, 2): 2, (2, 2): 2}}
            self.assertIs(is_layers(FAR, ROWS, ORDER, value), False)

    def test_true_is_no_integer(self):
        query = Query(("x",), r=("x",))
        tables = {"r": ((0,), (1,))}
        self.assertIs(is_layers(query, tables, ("x",), {"x": {(0,): 1, (1,): 1}}), True)
        for layer in ({(False,): 1, (1,): 1}, {(0,): 1, (True,): 1}, {(0,): True, (1,): 1}, {(0,): 1, (1,): True}):
            self.assertEqual(layer, {(0,): 1, (1,): 1})
            self.assertIs(is_layers(query, tables, ("x",), {"x": layer}), False)

    def test_every_value(self):
        for value in odd_values():
            self.assertIs(is_layers(FAR, ROWS, ORDER, value), False)
            for column in "xyz":
                self.assertIs(is_layers(FAR, ROWS, ORDER, {**FOUND, column: value}), False)
            self.assertIs(is_layers(FAR, ROWS, ORDER, self.changed("x", (1,), value)), value == 3)


class Totals(Case):
    def test_ordinary(self):
        self.assertEqual([total(FAR, ROWS), total(FAR.with_shown("z"), ROWS), total(FAR.with_shown(), ROWS)], [5, 2, 1])
        self.assertEqual(total(FAR, {"r": (), "s": ROWS["s"]}), 0)
        self.assertEqual(total(FAR.with_shown(), {"r": ROWS["r"], "s": ()}), 0)

    def test_greater_than_the_tables(self):
        self.assertEqual(total(wide_query(), wide_tables()), 10 ** 30)
        self.assertEqual(total(wide_query().with_shown("c", "a"), wide_tables()), 10 ** 6)
        self.assertEqual(total(wide_query().with_shown(), wide_tables()), 1)
        pairs = tuple((first, second) for first in range(31) for second in range(31))
        chain = {name: pairs for name in CHAIN.atoms}
        self.assertEqual([total(CHAIN, chain), total(CHAIN.with_shown("c", "d"), chain)], [31 ** 10, 31 ** 2])

    def test_small_tables(self):
        found = 0
        for query, tables, order in good_cases(400, seed=84):
            self.assertEqual(total(query, tables), count_answers(query, tables))
            found += total(query, tables)
        self.assertGreater(found, 500)

    def test_total_from_the_roots(self):
        for query, tables, order in good_cases(150, seed=85):
            found, own, above = layers(query, tables, order), layer_columns(query, order), parents(query, order)
            roots = [column for column in query.columns if above[column] is None]
            self.assertEqual(math.prod(factor(query, own, found, column, {}) for column in roots), total(query, tables))

    def test_answers_that_begin_with_values(self):
        for query, tables, order in good_cases(150, seed=86):
            found, own, rows = layers(query, tables, order), layer_columns(query, order), list(answers(query, tables))
            for many in range(len(query.shown) + 1):
                for values in itertools.product(range(3), repeat=many):
                    told = dict(zip(order, values))
                    number = math.prod(factor(query, own, found, column, told)
                                       for column in open_columns(query, order, many))
                    if any(tuple(told[one] for one in own[column]) not in found[column] for column in order[:many]):
                        number = 0
                    self.assertEqual(number, len([row for row in rows if row[:many] == values]))


class Errors(Case):
    def test_wrong_query(self):
        for query in odd_except(lambda one: isinstance(one, Query)):
            for tables in (ROWS, None):
                self.fails(InvalidQuery, total, query, tables)
                for order in (ORDER, None):
                    self.fails(InvalidQuery, layers, query, tables, order)
                    self.fails(InvalidQuery, is_layers, query, tables, order, FOUND)

    def test_wrong_tables(self):
        for tables in ({"r": ()}, {**ROWS, "s": ((2, 5), (1, 5))}, {**ROWS, "r": ((1, True),)}, tuple(ROWS),
                       *odd_except(lambda one: one is ROWS)):
            for order in (ORDER, None, ("x", "y", "z")):
                self.fails(InvalidTables, layers, FAR, tables, order)
                self.fails(InvalidTables, is_layers, FAR, tables, order, FOUND)
            for query in (FAR, TRIO):
                self.fails(InvalidTables, total, query, tables)

    def test_wrong_order(self):
        for order in (("x", "y", "z"), ("z", "x", "y"), list(ORDER), *odd_values()):
            self.fails(InvalidOrder, layers, FAR, ROWS, order)
            for value in (FOUND, None):
                self.fails(InvalidOrder, is_layers, FAR, ROWS, order, value)
        self.fails(InvalidOrder, layers, TRIO, ROWS, ("x", "y", "z"))

    def test_no_good_order(self):
        for query in (TRIO, BRIDGE):
            self.assertTrue(is_witness(query, self.fails(Unsorted, total, query, ROWS).witness))
        for query in (RING, SHELL):
            tables = {name: () for name in query.atoms}
            self.assertTrue(is_witness(query, self.fails(Unsorted, total, query, tables).witness))


if __name__ == "__main__":
    unittest.main()
