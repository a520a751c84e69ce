"""Bridges, trios and witnesses: [0.12] to [0.14], [5.1], [5.2]."""

import inspect
import itertools
import unittest

from pagewise.errors import InvalidQuery
from pagewise.queries.queries import Query
from pagewise.shapes.rings import rings, shells
from pagewise.shapes.witnesses import bridges, is_bridge, is_trio, is_witness, trios, witness, witnesses
from tests.cases import (BRIDGE, FAR, LETTERS, RING, SHELL, TRIO, Case, all_orders, are_near, good_by_words, odd_except,
                         odd_values, random_queries)

TEN = LETTERS[:10]
CHAIN = Query.of(("j", "a"), {"t" + one: (two, one) for one, two in zip(TEN, TEN[1:])})
WORDS = ("ring", "shell", "bridge", "trio")


def bridge_by_words(query, columns):
    if len(columns) < 3 or len(set(columns)) < len(columns):
        return False
    if columns[0] not in query.shown or columns[-1] not in query.shown or set(columns[1:-1]) & set(query.shown):
        return False
    return all(are_near(query, columns[one], columns[two]) == (two == one + 1)
               for one, two in itertools.combinations(range(len(columns)), 2))


def trio_by_words(query, columns):
    if len(columns) != 3 or not set(columns) <= set(query.shown):
        return False
    x, y, z = columns
    in_order = query.shown.index(x) < query.shown.index(y) < query.shown.index(z)
    return in_order and are_near(query, x, z) and are_near(query, y, z) and not are_near(query, x, y)


def has_good_order(query):
    return any(good_by_words(query, order) for order in all_orders(query))


class Bridges(Case):
    def test_ordinary(self):
        self.assertEqual(list(bridges(BRIDGE)), [("x", "z", "y")])
        self.assertEqual([is_bridge(BRIDGE, form) for form in (("x", "z", "y"), ("y", "z", "x"))], [True, True])
        for value in (("x", "y", "z"), ("x", "z"), ("x", "z", "y", "z"), ["x", "z", "y"], ("x", "z", "w")):
            self.assertIs(is_bridge(BRIDGE, value), False)
        self.assertEqual([list(bridges(FAR)), list(bridges(TRIO)), list(bridges(RING))], [[], [], []])

    def test_the_order_does_not_matter(self):
        self.assertEqual(list(bridges(FAR.with_shown("y", "x", down=("y",)))), [("x", "z", "y")])

    def test_ten_columns(self):
        self.assertEqual(list(bridges(CHAIN)), [TEN])
        self.assertEqual([is_bridge(CHAIN, TEN), is_bridge(CHAIN, TEN[::-1]), is_bridge(CHAIN, TEN[1:])],
                         [True, True, False])
        self.assertEqual(list(bridges(CHAIN.with_shown("a", "e", "f"))), [("a", "b", "c", "d", "e")])

    def test_neighbours_at_the_ends(self):
        query = BRIDGE.with_atom("t", "x", "y")
        self.assertEqual([list(bridges(query)), is_bridge(query, ("x", "z", "y"))], [[], False])

    def test_shorter_ones_first(self):
        query = Query(("d", "b", "a"), p=("a", "x"), q=("x", "y"), r=("y", "b"), s=("d", "z"), t=("z", "b"),
                      u=("a", "z"))
        self.assertEqual(list(bridges(query)), [("a", "z", "b"), ("a", "z", "d"), ("b", "z", "d"),
                                                ("a", "x", "y", "b")])


class Trios(Case):
    def test_ordinary(self):
        self.assertEqual(list(trios(TRIO)), [("x", "y", "z")])
        self.assertIs(is_trio(TRIO, ("x", "y", "z")), True)
        for value in (("y", "x", "z"), ("x", "z", "y"), ("x", "y"), ("x", "y", "z", "z"), ["x", "y", "z"],
                      ("x", "x", "z"), ("x", "y", "w")):
            self.assertIs(is_trio(TRIO, value), False)
        self.assertEqual([list(trios(FAR)), list(trios(BRIDGE)), list(trios(SHELL))], [[], [], []])

    def test_other_columns_between(self):
        query = TRIO.with_atom("t", "v").with_atom("u", "w", "x").with_shown("x", "v", "y", "w", "z")
        self.assertEqual(list(trios(query)), [("x", "y", "z")])
        self.assertIs(is_trio(query, ("x", "y", "z")), True)

    def test_ascending(self):
        query = Query(("c", "b", "a", "z"), down=("z",), p=("z", "a"), q=("b", "z"), r=("z", "c"))
        self.assertEqual(list(trios(query)), [("b", "a", "z"), ("c", "a", "z"), ("c", "b", "z")])

    def test_neighbours_in_front(self):
        query = TRIO.with_atom("t", "y", "x")
        self.assertEqual([list(trios(query)), is_trio(query, ("x", "y", "z"))], [[], False])


class Witnesses(Case):
    def test_ordinary(self):
        self.assertIs(witness(FAR), None)
        self.assertEqual(list(witnesses(FAR)), [])
        self.assertEqual([witness(RING), witness(SHELL)], [("ring", ("a", "b", "c", "d")), ("shell", ("a", "b", "c"))])
        self.assertEqual([witness(BRIDGE), witness(TRIO)], [("bridge", ("x", "z", "y")), ("trio", ("x", "y", "z"))])

    def test_all_kinds_in_their_order(self):
        query = Query(("k", "m", "l"), a=("a", "b"), b=("b", "c"), c=("c", "d"), d=("d", "a"),
                      e=("e", "f"), f=("f", "g"), g=("g", "e"), k=("k", "l"), m=("l", "m"))
        stays = [("ring", ("a", "b", "c", "d")), ("shell", ("e", "f", "g"))]
        self.assertEqual(list(witnesses(query)), [*stays, ("trio", ("k", "m", "l"))])
        self.assertEqual(list(witnesses(query.with_shown("m", "k"))), [*stays, ("bridge", ("k", "l", "m"))])

    def test_is_witness(self):
        for columns in itertools.permutations("abcd"):
            ring = (ord(columns[0]) - ord(columns[2])) % 2 == 0
            self.assertIs(is_witness(RING, ("ring", columns)), ring)
        self.assertIs(is_witness(SHELL, ("shell", ("a", "b", "c"))), True)
        self.assertIs(is_witness(SHELL, ("shell", ("c", "b", "a"))), False)
        self.assertIs(is_witness(BRIDGE, ("bridge", ("y", "z", "x"))), True)
        self.assertIs(is_witness(TRIO, ("trio", ("x", "y", "z"))), True)
        for word in (*odd_values(), "order", "sort", "Ring", "bridges"):
            for query, columns in ((RING, ("a", "b", "c", "d")), (TRIO, ("x", "y", "z")), (BRIDGE, ("x", "z", "y"))):
                self.assertIs(is_witness(query, (word, columns)), False)
        for value in (("trio", "x", "y", "z"), ("trio",), ["trio", ("x", "y", "z")], ("trio", ["x", "y", "z"]),
                      (("x", "y", "z"), "trio"), ("trio", ("x", "y", "z"), None), "trio"):
            self.assertIs(is_witness(TRIO, value), False)

    def test_every_value(self):
        for query in (RING, SHELL, BRIDGE, TRIO):
            for value in odd_values():
                for function in (is_bridge, is_trio, is_witness):
                    self.assertIs(function(query, value), False)
                for word in WORDS:
                    self.assertIs(is_witness(query, (word, value)), False)
        for part in odd_except(lambda one: one == "z"):
            self.assertIs(is_bridge(BRIDGE, ("x", part, "y")), False)
            self.assertIs(is_trio(TRIO, ("x", "y", part)), False)

    def test_all_tuples_of_small_queries(self):
        counts = {word: 0 for word in WORDS}
        for query in random_queries(400, seed=30, most_columns=6, most_atoms=7):
            tuples = [columns for size in range(len(query) + 1)
                      for columns in itertools.permutations(query.columns, size)]
            spanned = [columns for columns in tuples if bridge_by_words(query, columns)]
            threes = [columns for columns in tuples if trio_by_words(query, columns)]
            self.assertEqual([columns for columns in tuples if is_bridge(query, columns)], spanned)
            self.assertEqual([columns for columns in tuples if is_trio(query, columns)], threes)
            found = [("ring", columns) for columns in rings(query)] + [("shell", columns) for columns in shells(query)]
            found += [("bridge", columns) for columns in spanned if columns[0] < columns[-1]]
            found += [("trio", columns) for columns in threes]
            self.assertEqual(list(witnesses(query)), found)
            self.assertTrue(all(is_witness(query, pair) for pair in found))
            counts = {word: counts[word] + [pair[0] for pair in found].count(word) for word in WORDS}
        self.assertTrue(all(many > 3 for many in counts.values()), counts)

    def test_a_witness_or_a_good_order(self):
        good = 0
        for query in random_queries(600, seed=31, most_columns=5, most_atoms=6):
            one = witness(query)
            self.assertEqual(one is None, has_good_order(query))
            self.assertTrue(one is None or is_witness(query, one))
            self.assertEqual(one is None, list(witnesses(query)) == [])
            good += one is None
        self.assertTrue(50 < good < 550, good)

    def test_down_does_not_matter(self):
        for query in random_queries(80, seed=32):
            self.assertEqual(list(witnesses(~query)), list(witnesses(query)))
            turned = query.with_shown_of(query.shown[::-1])
            self.assertEqual(list(bridges(turned)), list(bridges(query)))

    def test_equal_queries_have_equal_witnesses(self):
        for query in random_queries(80, seed=33):
            same = Query.of(query.shown, dict(reversed(query.atoms.items())), down=query.down)
            self.assertEqual([witness(same), list(witnesses(same))], [witness(query), list(witnesses(query))])

    def test_one_by_one(self):
        for generator, query in ((bridges, BRIDGE), (trios, TRIO), (witnesses, RING)):
            results = generator(query)
            self.assertTrue(inspect.isgenerator(results))
            self.assertEqual([next(results), *results], list(generator(query)))

    def test_errors(self):
        for query in odd_except(lambda one: isinstance(one, Query)):
            for generator in (bridges, trios, witnesses):
                self.stays_lazy(InvalidQuery, generator, query)
            for value in (None, ("x", "y", "z"), ("trio", ("x", "y", "z"))):
                for function in (is_bridge, is_trio, is_witness):
                    self.fails(InvalidQuery, function, query, value)
            self.fails(InvalidQuery, witness, query)


if __name__ == "__main__":
    unittest.main()
