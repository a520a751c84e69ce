"""Solutions and answers: [0.7], [0.11], [3.1]."""

import inspect
import itertools
import random
import unittest

from pagewise.errors import InvalidQuery, InvalidTables, TooMany
from pagewise.queries.queries import Query
from pagewise.tables.answers import answers, count_answers, is_answer, solutions
from tests.cases import (BIG, BRIDGE, FAR, LETTERS, ROWS, TRIO, Case, nested, odd_except, odd_values, random_queries,
                         random_tables)

FUNCTIONS = (lambda query, tables: next(solutions(query, tables)), lambda query, tables: next(answers(query, tables)),
             count_answers, lambda query, tables: is_answer(query, tables, None),
             lambda query, tables: is_answer(query, tables, ()))
PAIR = Query(("x",), a=("x",), b=("y",))
THREE = Query((), a=("x",), b=("y",), c=("z",))
HUGE = tuple((number,) for number in range(1000))


def first_rows(many):
    return HUGE[:many]


def all_solutions(query, tables):
    """By going through all values of all columns."""
    values = {column: set() for column in query.columns}
    for name, own in query.atoms.items():
        for row in tables[name]:
            for column, value in zip(own, row):
                values[column].add(value)
    found = []
    for row in itertools.product(*[sorted(values[column]) for column in query.columns]):
        one = dict(zip(query.columns, row))
        if all(tuple(one[column] for column in own) in tables[name] for name, own in query.atoms.items()):
            found.append(one)
    return found


def all_answers(query, tables):
    rows = {tuple(one[column] for column in query.shown) for one in all_solutions(query, tables)}
    rows = sorted(rows)
    for at in reversed(range(len(query.shown))):
        rows.sort(key=lambda row: row[at], reverse=query.shown[at] in query.down)
    return rows


class Ordinary(Case):
    def test_far(self):
        self.assertEqual(list(answers(FAR, ROWS)), [(1, 1, 5), (1, 2, 5), (1, 2, 6), (2, 2, 5), (2, 2, 6)])
        self.assertEqual(count_answers(FAR, ROWS), 5)
        self.assertEqual(list(answers(~FAR, ROWS)), list(answers(FAR, ROWS))[::-1])
        self.assertEqual(list(answers(FAR.with_shown("z", "x", down=("z",)), ROWS)), [(2, 1), (2, 2), (1, 1)])

    def test_without_good_order(self):
        self.assertEqual(list(answers(TRIO, ROWS)), [(1, 5, 1), (1, 5, 2), (1, 6, 2), (2, 5, 2), (2, 6, 2)])
        self.assertEqual(list(answers(BRIDGE, ROWS)), [(1, 5), (1, 6), (2, 5), (2, 6)])

    def test_without_shown_columns(self):
        query = FAR.with_shown()
        self.assertEqual([list(answers(query, ROWS)), count_answers(query, ROWS)], [[()], 1])
        self.assertEqual([is_answer(query, ROWS, ()), is_answer(query, ROWS, (1,))], [True, False])
        empty = {"r": ((1, 1),), "s": ((2, 2),)}
        self.assertEqual([list(answers(query, empty)), count_answers(query, empty)], [[], 0])
        self.assertIs(is_answer(query, empty, ()), False)

    def test_without_rows(self):
        for tables in ({"r": (), "s": ()}, {"r": ROWS["r"], "s": ()}, {"r": (), "s": ROWS["s"]}):
            self.assertEqual([list(solutions(FAR, tables)), list(answers(FAR, tables))], [[], []])
            self.assertEqual(count_answers(FAR, tables), 0)

    def test_keys_ascend(self):
        for one in solutions(FAR, ROWS):
            self.assertEqual(list(one), ["x", "y", "z"])

    def test_down_is_for_answers_alone(self):
        self.assertEqual(list(solutions(~FAR, ROWS)), list(solutions(FAR, ROWS)))

    def test_great_integers(self):
        tables = {"r": ((-BIG, BIG),), "s": ((BIG, BIG),)}
        self.assertEqual(list(answers(FAR, tables)), [(-BIG, BIG, BIG)])
        self.assertIs(is_answer(FAR, tables, (-BIG, BIG, BIG)), True)

    def test_is_answer_of_every_value(self):
        self.assertIs(is_answer(BRIDGE, ROWS, (1, 6)), True)
        self.assertIs(is_answer(BRIDGE, {"r": ((1, 1),), "s": ((1, 1),)}, (True, 1)), False)
        for value in odd_values():
            self.assertIs(is_answer(BRIDGE, ROWS, value), False)
        for value in ([1, 6], (1, 6, 1), (1,), (6, 1), {1: 6}):
            self.assertIs(is_answer(BRIDGE, ROWS, value), False)

    def test_random_tables(self):
        chance = random.Random(7)
        for query in random_queries(300, seed=6, most_columns=5, most_atoms=4):
            tables = random_tables(chance, query, most_rows=6, values=3)
            self.assertEqual(list(solutions(query, tables)), all_solutions(query, tables))
            expected = all_answers(query, tables)
            self.assertEqual(list(answers(query, tables)), expected)
            self.assertEqual(count_answers(query, tables), len(expected))
            for row in itertools.product(range(-1, 3), repeat=len(query.shown)):
                self.assertIs(is_answer(query, tables, row), row in expected)


class Generators(Case):
    def test_one_by_one(self):
        for generator in (answers, solutions):
            results = generator(FAR, ROWS)
            self.assertTrue(inspect.isgenerator(results))
            self.assertEqual([next(results), *results], list(generator(FAR, ROWS)))

    def test_errors_come_with_the_first_result(self):
        full = {"a": HUGE, "b": HUGE}
        for generator in (answers, solutions):
            self.stays_lazy(InvalidQuery, generator, None, ROWS)
            self.stays_lazy(InvalidTables, generator, FAR, None)
            self.assertEqual(self.stays_lazy(TooMany, generator, PAIR, full).limit, 20000)

    def test_changes_in_between(self):
        tables = dict(ROWS)
        for generator in (answers, solutions):
            results = generator(FAR, tables)
            first = next(results)
            tables["r"] = ()
            if generator is solutions:
                first.clear()
            self.assertEqual(list(results), list(generator(FAR, ROWS))[1:])
            tables["r"] = ROWS["r"]

    def test_passed_tables_stay(self):
        tables = dict(ROWS)
        for one in solutions(FAR, tables):
            one["x"] = None
        list(answers(FAR, tables))
        count_answers(FAR, tables)
        self.assertEqual(tables, ROWS)


class TooManyPartRows(Case):
    def all_fail(self, query, tables):
        for function in FUNCTIONS:
            self.keeps(TooMany, "limit", 20000, function, query, tables)
        for value in odd_values():
            self.keeps(TooMany, "limit", 20000, is_answer, query, tables, value)

    def test_just_enough(self):
        tables = {"a": first_rows(100), "b": first_rows(200)}
        self.assertEqual(count_answers(PAIR, tables), 100)
        self.assertEqual(len(list(solutions(PAIR, tables))), 20000)
        self.assertIs(is_answer(PAIR, tables, (99,)), True)
        self.assertIs(is_answer(PAIR, tables, (100,)), False)

    def test_one_too_many(self):
        self.assertEqual(3 * 59 * 113, 20001)
        self.all_fail(THREE, {"a": first_rows(3), "b": first_rows(59), "c": first_rows(113)})

    def test_too_many_on_the_way(self):
        query = THREE.with_atom("d", "x", "y")
        self.all_fail(query, {"a": first_rows(101), "b": first_rows(199), "c": first_rows(1), "d": ((0, 0),)})
        self.all_fail(query, {"a": first_rows(101), "b": first_rows(199), "c": (), "d": ()})

    def test_atoms_in_ascending_order(self):
        tables = {"a": first_rows(1000), "b": first_rows(1000), "m": tuple((n, n) for n in range(1000))}
        self.all_fail(Query(("x",), a=("x",), b=("y",), m=("x", "y")), tables)
        query = Query(("x",), a=("x",), m=("x", "y"), z=("y",))
        tables = {"a": tables["a"], "m": tables["m"], "z": tables["b"]}
        self.assertEqual(count_answers(query, tables), 1000)

    def test_a_chain_of_ten(self):
        columns = LETTERS[:10]
        atoms = {"t" + one: (one, two) for one, two in zip(columns, columns[1:])}
        rows = tuple(itertools.product(range(3), repeat=2))
        query = Query.of(columns[:1], atoms)
        self.all_fail(query, {name: rows for name in atoms})
        rows = tuple(itertools.product(range(2), repeat=2))
        self.assertEqual(len(list(solutions(query, {name: rows for name in atoms}))), 1024)


class Errors(Case):
    def test_wrong_query(self):
        for query in odd_except(lambda one: isinstance(one, Query)):
            for function in FUNCTIONS:
                self.fails(InvalidQuery, function, query, None)

    def test_wrong_tables(self):
        wrong = [{"r": ((1,),), "s": ()}, {"r": ((2, 1), (1, 1)), "s": ()}, nested(dict, 10), {"r": (), "s": HUGE}]
        for tables in [*wrong, *odd_except(lambda one: one is ROWS)]:
            for function in FUNCTIONS:
                self.fails(InvalidTables, function, FAR, tables)

    def test_tables_come_ahead_of_too_many(self):
        for function in FUNCTIONS:
            self.fails(InvalidTables, function, THREE, {"a": HUGE, "b": HUGE, "c": None})


if __name__ == "__main__":
    unittest.main()
