"""Tables: [0.10], [0.17] and what [3.1] says up to `chosen_by`."""

import random
import unittest

from pagewise.errors import InvalidNumber, InvalidOperation, InvalidQuery, InvalidTables, TooMany, UnknownName
from pagewise.queries.queries import Query
from pagewise.tables import tables as module
from pagewise.tables.tables import chosen, chosen_by, is_tables, tables_by, tables_from, values_of
from tests.cases import (BIG, BRIDGE, FAR, LETTERS, ROWS, Case, is_whole, odd_except, odd_values, random_queries,
                         random_tables)

ONE = Query(("x",), r=("x",))
NAMED = Query(("query",), query=("query", "tables"))
NO_ROWS = (None, True, 1, "", "12", [], [(1, 2)], {}, (1, 2), ((1,),), ((1, 2, 3),), ([1, 2],), ((1, True),),
           ((1, None),), ((1, "2"),), ((1, 2), (3,)), ((1, (2,)),), ((),), FAR)


def with_keys_of_strings(value):
    return isinstance(value, dict) and all(isinstance(key, str) for key in value)


def many_rows(many):
    return tuple((number,) for number in range(many))


class IsTables(Case):
    def test_tables(self):
        for tables in (ROWS, {"s": (), "r": ()}, {"r": ((-BIG, BIG), (0, 0)), "s": ((1, 2),)}):
            self.assertIs(is_tables(FAR, tables), True)
            self.assertIs(is_tables(BRIDGE, tables), True)

    def test_no_tables(self):
        for tables in ({"r": ()}, {"r": (), "s": (), "t": ()}, {"r": (), "t": ()}, {"r": (), 1: ()}, {}):
            self.assertIs(is_tables(FAR, tables), False)
        for rows in (*NO_ROWS, ((1, 2), (1, 1)), ((1, 2), (1, 2)), ((2, 1), (1, 2))):
            self.assertIs(is_tables(FAR, {"r": rows, "s": ()}), False)
            self.assertIs(is_tables(FAR, {"r": (), "s": rows}), False)

    def test_every_value(self):
        for value in odd_except(lambda one: one is ROWS):
            self.assertIs(is_tables(FAR, value), False)

    def test_many_rows(self):
        self.assertEqual(module.MAX_ROWS, 1000)
        self.assertIs(is_tables(ONE, {"r": many_rows(1000)}), True)
        self.assertIs(is_tables(ONE, {"r": many_rows(1001)}), False)

    def test_ten_columns(self):
        wide = Query((), r=LETTERS[:10])
        self.assertIs(is_tables(wide, {"r": (tuple(range(10)),)}), True)
        self.assertIs(is_tables(wide, {"r": (tuple(range(11)),)}), False)

    def test_wrong_query(self):
        for query in odd_except(lambda one: isinstance(one, Query)):
            for value in (None, ROWS):
                self.fails(InvalidQuery, is_tables, query, value)


class Making(Case):
    def test_ordinary(self):
        self.assertEqual(tables_from(FAR, s=((2, 6), (1, 5), (2, 5)), r=((2, 2), (1, 2), (1, 1), (1, 2))), ROWS)
        self.assertEqual(list(tables_from(FAR, s=((2, 6),)).items()), [("r", ()), ("s", ((2, 6),))])
        self.assertEqual(tables_from(FAR), {"r": (), "s": ()})
        self.assertEqual(tables_by(FAR, {}), {"r": (), "s": ()})
        self.assertEqual(tables_by(NAMED, {"query": ((1, 2),)}), {"query": ((1, 2),)})

    def test_many_rows(self):
        rows = many_rows(1000)
        self.assertEqual(tables_from(ONE, r=rows[::-1] + rows), {"r": rows})
        self.keeps(TooMany, "limit", 1000, tables_from, ONE, r=many_rows(1001))
        self.keeps(TooMany, "limit", 1000, tables_by, ONE, {"r": many_rows(1001)})

    def test_errors(self):
        for query in odd_except(lambda one: isinstance(one, Query)):
            self.fails(InvalidQuery, tables_by, query, {})
            self.fails(InvalidQuery, tables_from, query)
        for rows in odd_except(with_keys_of_strings):
            self.fails(InvalidOperation, tables_by, FAR, rows)
        self.keeps(UnknownName, "name", "a", tables_from, FAR, z=(), a=(), r=None)
        self.keeps(UnknownName, "name", "", tables_by, FAR, {"x": (), "": ()})
        for rows in NO_ROWS:
            self.fails(InvalidTables, tables_from, FAR, r=rows)
            self.fails(InvalidTables, tables_by, FAR, {"r": (), "s": rows})

    def test_the_first_error_counts(self):
        self.fails(InvalidQuery, tables_by, None, None)
        self.fails(InvalidOperation, tables_by, FAR, {"t": 1, 2: ()})
        self.fails(UnknownName, tables_by, FAR, {"r": None, "t": ()})
        pair = Query((), r=("x",), s=("x",))
        self.fails(InvalidTables, tables_from, pair, r=many_rows(1001), s=None)
        self.fails(TooMany, tables_from, pair, r=many_rows(1001))

    def test_random_rows(self):
        chance = random.Random(1)
        for query in random_queries(60, seed=8):
            tables = random_tables(chance, query)
            mixed = {name: tuple(chance.choices(rows, k=9)) + rows for name, rows in tables.items() if rows}
            self.assertEqual(tables_by(query, mixed), tables)
            self.assertIs(is_tables(query, tables), True)


class Values(Case):
    def test_ordinary(self):
        self.assertEqual([values_of(FAR, ROWS, column) for column in "xyz"], [(1, 2), (5, 6), (1, 2)])
        self.assertEqual(values_of(FAR, {"r": ((1, 7), (1, 9), (2, -3)), "s": ((-3, 0), (4, 0), (9, 9))}, "z"), (-3, 9))
        self.assertEqual(values_of(FAR, {"r": (), "s": ((1, 1),)}, "z"), ())
        self.assertEqual(values_of(FAR, {"r": (), "s": ((1, 1),)}, "y"), (1,))

    def test_random_tables(self):
        chance = random.Random(3)
        for query in random_queries(60, seed=4):
            tables = random_tables(chance, query)
            for column in query.columns:
                sets = [{row[own.index(column)] for row in tables[name]}
                        for name, own in query.atoms.items() if column in own]
                self.assertEqual(values_of(query, tables, column), tuple(sorted(set.intersection(*sets))))

    def test_errors(self):
        for query in odd_except(lambda one: isinstance(one, Query)):
            self.fails(InvalidQuery, values_of, query, None, None)
        for tables in odd_except(lambda one: one is ROWS):
            self.fails(InvalidTables, values_of, FAR, tables, "w")
        for column in odd_except(lambda one: one in ("x", "z")):
            self.keeps(UnknownName, "name", column, values_of, FAR, ROWS, column)


class Chosen(Case):
    def test_ordinary(self):
        self.assertEqual(chosen(FAR, ROWS, x=1), {"r": ((1, 1), (1, 2)), "s": ROWS["s"]})
        self.assertEqual(chosen(FAR, ROWS, z=2), {"r": ((1, 2), (2, 2)), "s": ((2, 5), (2, 6))})
        self.assertEqual(chosen(FAR, ROWS, x=1, z=2), {"r": ((1, 2),), "s": ((2, 5), (2, 6))})
        self.assertEqual(chosen(FAR, ROWS, y=7), {"r": ROWS["r"], "s": ()})
        self.assertEqual(chosen(FAR, ROWS), ROWS)
        self.assertEqual(list(chosen_by(FAR, {"s": (), "r": ()}, {}).items()), [("r", ()), ("s", ())])
        self.assertEqual(chosen_by(NAMED, {"query": ((1, 2), (2, 2))}, {"query": 2, "tables": 2}), {"query": ((2, 2),)})
        self.assertEqual(chosen(FAR, {"r": ((0, BIG),), "s": ()}, z=BIG), {"r": ((0, BIG),), "s": ()})

    def test_errors(self):
        for query in odd_except(lambda one: isinstance(one, Query)):
            self.fails(InvalidQuery, chosen_by, query, None, None)
        for tables in odd_except(lambda one: one is ROWS):
            self.fails(InvalidTables, chosen_by, FAR, tables, None)
            self.fails(InvalidTables, chosen, FAR, tables, w=1)
        for values in odd_except(with_keys_of_strings):
            self.fails(InvalidOperation, chosen_by, FAR, ROWS, values)
        self.keeps(UnknownName, "name", "", chosen_by, FAR, ROWS, {"w": 1, "": 2, "x": None})
        self.keeps(UnknownName, "name", "a", chosen, FAR, ROWS, x=None, w=1, a=1)
        for value in odd_except(is_whole):
            self.keeps(InvalidNumber, "value", value, chosen, FAR, ROWS, x=value)
            self.keeps(InvalidNumber, "value", value, chosen_by, FAR, ROWS, {"z": [], "x": 1, "y": value})

    def test_the_first_error_counts(self):
        self.fails(InvalidOperation, chosen_by, FAR, ROWS, {1: 1, "w": 1})
        self.fails(UnknownName, chosen_by, FAR, ROWS, {"a": 1, "x": None})


class Unchanged(Case):
    def test_passed_and_returned(self):
        tables, rows, values = dict(ROWS), {"s": ((2, 1), (1, 1))}, {"x": 1}
        made = tables_by(FAR, rows)
        picked = chosen_by(FAR, tables, values)
        values_of(FAR, tables, "z")
        made["r"] = picked["r"] = None
        self.assertEqual([tables, rows, values], [ROWS, {"s": ((2, 1), (1, 1))}, {"x": 1}])
        same = chosen(FAR, tables)
        same.clear()
        self.assertEqual(tables, ROWS)

    def test_every_value_has_some_end(self):
        for value in odd_values():
            self.assertIn(is_tables(FAR, value), (True, False))


if __name__ == "__main__":
    unittest.main()
