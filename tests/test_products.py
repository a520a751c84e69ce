"""Products of relations, and their translation to tables: [0.14], [13.1] to [13.3]."""

import random
import unittest

from pagewise.errors import InvalidOperation, InvalidQuery, InvalidRow
from pagewise.problems.products import product, product_by, product_tables
from pagewise.queries.queries import Query
from pagewise.shapes.witnesses import bridges, trios
from pagewise.tables.answers import answers
from pagewise.tables.tables import is_tables
from tests.cases import (BIG, BRIDGE, FAR, LETTERS, RING, SHELL, TRIO, Case, is_whole, odd_except, odd_values,
                         random_queries)

FIRST, SECOND = ((1, 7), (2, 8)), ((7, 3), (9, 4))
TRIO_OF = ("trio", ("x", "y", "z"))
BRIDGE_OF = ("bridge", ("x", "z", "y"))
FULL = tuple((one, other) for one in range(10) for other in range(10))
LONG = tuple((0, number) for number in range(100))
# Each atom has other roles: a and b, b and c, a alone, c alone, b alone, none, and two orders of a and b.
WIDE = Query(("v", "x", "w", "y", "z"), ab=("z", "q", "x"), bc=("z", "y"), a=("x", "v"), c=("q", "y"), b=("z", "w"),
             none=("v", "q"), ba=("x", "z"))


def is_relation(value):
    return (isinstance(value, tuple) and len(value) <= 100
            and all(isinstance(pair, tuple) and len(pair) == 2 and all(map(is_whole, pair)) for pair in value)
            and list(value) == sorted(set(value)))


def random_relation(chance, most=6, values=4):
    return tuple(sorted({(chance.randrange(values), chance.randrange(values)) for _ in range(chance.randint(0, most))}))


def by_words(first, second):
    """The product, by the words of the document."""
    middles = {middle for _, middle in first}
    return tuple(sorted({(a, c) for a, _ in first for _, c in second
                         if any((a, b) in first and (b, c) in second for b in middles)}))


def chain(size):
    """A query with a bridge of so many columns: the first and the last one are shown."""
    atoms = {"t" + one: (one, other) for one, other in zip(LETTERS, LETTERS[1:size])}
    return Query.of((LETTERS[size - 1], LETTERS[0]), atoms)


def honest(query, tables, values):
    return len([row for row in answers(query, tables) if row[:len(values)] == values])


def found_values(query, witness, a, c):
    """The values of [13.3], by its words."""
    word, columns = witness
    first, last = (columns[0], columns[1]) if word == "trio" else (columns[0], columns[-1])
    k = max(query.shown.index(first), query.shown.index(last)) + 1
    return tuple(a if column == first else c if column == last else 0 for column in query.shown[:k])


def all_witnesses(query):
    return [("trio", columns) for columns in trios(query)] + [
        ("bridge", one) for columns in bridges(query) for one in (columns, columns[::-1])]


class Products(Case):
    def test_ordinary(self):
        self.assertEqual(product(FIRST, SECOND), ((1, 3),))
        self.assertEqual(product(((1, 2), (1, 3), (2, 3)), ((2, 5), (3, 5), (3, 4))[:1]), ((1, 5),))
        self.assertEqual(product(((1, 2), (1, 3), (2, 3)), ((2, 9), (3, 4), (3, 9))), ((1, 4), (1, 9), (2, 4), (2, 9)))

    def test_edges(self):
        self.assertEqual([product((), ()), product(FIRST, ()), product((), SECOND)], [(), (), ()])
        self.assertEqual([product(((1, 1),), ((1, 1),)), product(((1, 2),), ((1, 2),))], [((1, 1),), ()])
        self.assertEqual(product(FULL, FULL), FULL)
        self.assertEqual(product(tuple((number, 0) for number in range(100)), LONG),
                         tuple((one, other) for one in range(100) for other in range(100)))
        self.assertEqual(product(((-BIG, BIG),), ((BIG, -1),)), ((-BIG, -1),))

    def test_all_pairs(self):
        chance = random.Random(1300)
        for _ in range(300):
            first, second = random_relation(chance), random_relation(chance)
            self.assertEqual(product(first, second), by_words(first, second))

    def test_errors(self):
        wrong = [((2, 1), (1, 1)), ((1, 1), (1, 1)), ((1, 2, 3),), ((1,),), ((1, True),), ([1, 2],), ((1, None),),
                 [(1, 2)],
                 tuple((0, number) for number in range(101)), ((1, 2), None), *odd_except(is_relation)]
        for value in wrong:
            self.fails(InvalidRow, product, value, SECOND)
            self.fails(InvalidRow, product, FIRST, value)
            for query, witness in ((TRIO, TRIO_OF), (BRIDGE, BRIDGE_OF)):
                self.fails(InvalidRow, product_tables, query, witness, value, SECOND)
                self.fails(InvalidRow, product_tables, query, witness, FIRST, value)
                self.fails(InvalidRow, product_by, query, witness, value, SECOND, None)
                self.fails(InvalidRow, product_by, query, witness, FIRST, value, None)
        self.assertEqual(len(product(LONG, ((99, 1),))), 1)


class ProductTables(Case):
    def test_a_trio(self):
        tables = product_tables(TRIO, TRIO_OF, FIRST, SECOND)
        self.assertEqual(list(tables.items()), [("r", ((1, 7), (2, 8))), ("s", ((7, 3), (9, 4)))])

    def test_a_bridge_from_both_ends(self):
        self.assertEqual(product_tables(BRIDGE, BRIDGE_OF, FIRST, SECOND), {"r": FIRST, "s": SECOND})
        self.assertEqual(product_tables(BRIDGE, ("bridge", ("y", "z", "x")), FIRST, SECOND),
                         {"r": ((3, 7), (4, 9)), "s": ((7, 1), (8, 2))})

    def test_each_kind_of_atom(self):
        first, second = ((1, 7), (1, 8), (2, 8)), ((8, 3), (8, 4), (9, 3))
        self.assertEqual(list(product_tables(WIDE, TRIO_OF, first, second).items()), [
            ("a", ((1, 0), (2, 0))), ("ab", ((7, 0, 1), (8, 0, 1), (8, 0, 2))), ("b", ((8, 0),)),
            ("ba", ((1, 7), (1, 8), (2, 8))), ("bc", ((8, 3), (8, 4), (9, 3))), ("c", ((0, 3), (0, 4))),
            ("none", ((0, 0),))])
        self.assertEqual(product_tables(WIDE, TRIO_OF, (), second)["bc"], second)
        self.assertEqual(list(product_tables(WIDE, TRIO_OF, (), ()).values()), [(), (), (), (), (), (), ((0, 0),)])

    def test_columns_between_share_the_middle(self):
        query = chain(5).with_atom("m", "c", "q", "b").with_atom("only", "d")
        witness = ("bridge", ("a", "b", "c", "d", "e"))
        self.assertEqual(product_tables(query, witness, ((1, 7), (2, 8)), ((8, 5), (9, 6))), {
            "m": ((8, 0, 8),), "only": ((8,),), "ta": ((1, 7), (2, 8)), "tb": ((8, 8),), "tc": ((8, 8),),
            "td": ((8, 5), (9, 6))})
        self.assertEqual(product_tables(query, ("bridge", witness[1][::-1]), ((1, 7), (2, 8)), ((8, 5), (9, 6))), {
            "m": ((8, 0, 8),), "only": ((8,),), "ta": ((5, 8), (6, 9)), "tb": ((8, 8),), "tc": ((8, 8),),
            "td": ((7, 1), (8, 2))})

    def test_answers_that_begin_with_the_values(self):
        chance, many = random.Random(1301), 0
        queries = [TRIO, BRIDGE, WIDE, chain(3), chain(4), chain(5), TRIO.with_shown("x", "y", "z", down=("y",)),
                   *random_queries(600, seed=1302)]
        for query in queries:
            for witness in all_witnesses(query):
                first, second = random_relation(chance, values=3), random_relation(chance, values=3)
                tables = product_tables(query, witness, first, second)
                self.assertTrue(is_tables(query, tables))
                self.assertLessEqual(max(map(len, tables.values())), max(len(first), len(second), 1))
                rows = list(answers(query, tables))
                for a in range(3):
                    for c in range(3):
                        values = found_values(query, witness, a, c)
                        self.assertEqual(any(row[:len(values)] == values for row in rows),
                                         (a, c) in by_words(first, second), (str(query), witness))
                many += 1
        self.assertGreater(many, 100)

    def test_a_hundred_rows(self):
        for query in (TRIO, BRIDGE, chain(10)):
            for witness in all_witnesses(query):
                tables = product_tables(query, witness, LONG, FULL)
                self.assertEqual(max(map(len, tables.values())), 100)

    def test_nothing_is_changed(self):
        tables = product_tables(TRIO, TRIO_OF, FIRST, SECOND)
        tables.clear()
        self.assertEqual(product_tables(TRIO, TRIO_OF, FIRST, SECOND), {"r": FIRST, "s": SECOND})

    def test_wrong_queries_and_witnesses(self):
        for function, rest in ((product_tables, ()), (product_by, (None,))):
            for query in odd_except(lambda one: isinstance(one, Query)):
                self.fails(InvalidQuery, function, query, None, None, None, *rest)
            for witness in (("ring", ("a", "b", "c", "d")), ("trio", ("x", "z", "y")), ("trio", ("y", "x", "z")),
                            ("bridge", ("x", "z", "y")), ("shell", ("x", "y", "z")), ("x", "y", "z"),
                            ["trio", ("x", "y", "z")], ("trio", ["x", "y", "z"]), *odd_values()):
                self.fails(InvalidOperation, function, TRIO, witness, None, None, *rest)
            self.fails(InvalidOperation, function, RING, ("ring", ("a", "b", "c", "d")), FIRST, SECOND, *rest)
            self.fails(InvalidOperation, function, SHELL, ("shell", ("a", "b", "c")), FIRST, SECOND, *rest)
            self.fails(InvalidOperation, function, FAR, TRIO_OF, FIRST, SECOND, *rest)
            self.fails(InvalidOperation, function, BRIDGE, TRIO_OF, FIRST, SECOND, *rest)


class Servers(Case):
    def test_an_honest_server_gives_the_product(self):
        chance, many = random.Random(1303), 0
        queries = [TRIO, BRIDGE, WIDE, chain(4), *random_queries(300, seed=1304)]
        for query in queries:
            for witness in all_witnesses(query)[:2]:
                first, second = random_relation(chance, values=3), random_relation(chance, values=3)
                self.assertEqual(product_by(query, witness, first, second, honest), by_words(first, second))
                many += 1
        self.assertGreater(many, 40)

    def test_what_a_server_tells_counts(self):
        first, second = ((1, 7), (2, 8), (2, 9)), ((7, 3), (8, 3), (9, 4))
        every = ((1, 3), (1, 4), (2, 3), (2, 4))
        self.assertEqual(product_by(TRIO, TRIO_OF, first, second, lambda *told: 0), ())
        self.assertEqual(product_by(TRIO, TRIO_OF, first, second, lambda *told: 10 ** 30), every)
        self.assertEqual(product_by(TRIO, TRIO_OF, first, second, lambda *told: -1), ())
        self.assertEqual(product_by(TRIO, TRIO_OF, first, second, lambda query, tables, values: values[0] - 1),
                         every[2:])

    def test_the_calls(self):
        calls, first, second = [], ((1, 7), (1, 8), (2, 8)), ((7, 3), (8, 3), (8, 4))
        product_by(WIDE, TRIO_OF, first, second, lambda *told: calls.append(told) or 0)
        self.assertEqual([values for _, _, values in calls],
                         [(0, 1, 0, 3), (0, 1, 0, 4), (0, 2, 0, 3), (0, 2, 0, 4)])
        for query, tables, _ in calls:
            self.assertEqual([query, list(tables.items())],
                             [WIDE, list(product_tables(WIDE, TRIO_OF, first, second).items())])
        self.assertEqual(len({id(tables) for _, tables, _ in calls}), 4)

    def test_the_calls_are_ascending(self):
        calls, numbers = [], (-BIG, -300, -2, -1, 0, 7, 300, BIG)
        first, second = tuple((number, -number) for number in numbers), tuple((number, number) for number in numbers)
        found = product_by(TRIO, TRIO_OF, first, second, lambda *told: calls.append(told[2][:2]) or 1)
        self.assertEqual([tuple(calls), found], [tuple((one, other) for one in numbers for other in numbers)] * 2)

    def test_the_later_column_can_have_the_role_a(self):
        calls = []
        product_by(chain(4), ("bridge", ("a", "b", "c", "d")), ((1, 7),),
                   ((7, 3),), lambda *told: calls.append(told) or 1)
        product_by(chain(4), ("bridge", ("d", "c", "b", "a")), ((1, 7),),
                   ((7, 3),), lambda *told: calls.append(told) or 1)
        self.assertEqual([values for _, _, values in calls], [(3, 1), (1, 3)])

    def test_a_server_that_changes_what_it_gets(self):
        def server(query, tables, values):
            many = honest(query, tables, values)
            tables.clear()
            tables["r"] = None
            return many

        self.assertEqual(product_by(TRIO, TRIO_OF, FULL, FULL, server), FULL)

    def test_nothing_to_ask(self):
        calls = []
        for first, second in (((), SECOND), (FIRST, ()), ((), ())):
            self.assertEqual(product_by(TRIO, TRIO_OF, first, second, lambda *told: calls.append(told) or 1), ())
        self.assertEqual(calls, [])

    def test_errors_of_the_server_go_on(self):
        with self.assertRaises(ZeroDivisionError):
            product_by(TRIO, TRIO_OF, FIRST, SECOND, lambda *told: 1 // 0)


if __name__ == "__main__":
    unittest.main()
