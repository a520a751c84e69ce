"""Good orders and order papers: [0.12] to [0.14], [0.17] for `order`, [6.1], [6.2]."""

import inspect
import itertools
import unittest

from pagewise.errors import InvalidOrder, InvalidQuery
from pagewise.orders.good import good_order, good_orders, homes, is_good, is_order_paper, order_paper
from pagewise.queries.queries import Query
from pagewise.shapes.witnesses import is_witness, witnesses
from tests.cases import (BRIDGE, FAR, LETTERS, RING, SHELL, TRIO, Case, all_orders, are_near, good_by_words,
                         odd_except, odd_values, random_queries)

TEN = LETTERS[:10]
TOGETHER = Query((), r=TEN)
CHAIN = Query.of((), {"t" + one: (two, one) for one, two in zip(TEN, TEN[1:])})
ONE = Query((), r=("x",))
NO_ORDERS = (("x", "z"), ("x", "z", "z"), ("x", "z", "y", "w"), ["x", "z", "y"], ("x", "z", 1), ("x", "z", True),
             ("y", "z", "x"), ("z", "x", "y"), "xzy", (("x", "z", "y"),), ("x", "z", "w"))


class IsGood(Case):
    def test_ordinary(self):
        self.assertIs(is_good(FAR, ("x", "z", "y")), True)
        for value in NO_ORDERS:
            self.assertIs(is_good(FAR, value), False)
        self.assertEqual([is_good(TRIO, ("x", "y", "z")), is_good(BRIDGE, ("x", "y", "z"))], [False, False])

    def test_the_shown_columns_stand_first(self):
        free = FAR.with_shown("z")
        good = [order for order in itertools.permutations("xyz") if is_good(free, order)]
        self.assertEqual(good, [("z", "x", "y"), ("z", "y", "x")])

    def test_one_column(self):
        for query in (ONE, ONE.with_shown("x"), ONE.with_shown("x", down=("x",))):
            self.assertEqual([is_good(query, ("x",)), is_good(query, ())], [True, False])
            self.assertEqual([good_order(query), list(good_orders(query))], [("x",), [("x",)]])
            self.assertEqual(homes(query, ("x",)), {"x": "r"})

    def test_all_orders_of_small_queries(self):
        found = 0
        for query in random_queries(400, seed=60, most_columns=5, most_atoms=6):
            good = [order for order in itertools.permutations(query.columns) if is_good(query, order)]
            self.assertEqual(good, [order for order in all_orders(query) if good_by_words(query, order)])
            found += len(good)
        self.assertGreater(found, 1000)

    def test_every_value(self):
        for query in (FAR, TRIO, RING, ONE):
            for value in odd_except(lambda one: one == ("x",)):
                self.assertIs(is_good(query, value), False)
        for part in odd_except(lambda one: one == "z"):
            self.assertIs(is_good(FAR, ("x", part, "y")), False)

    def test_shown_columns_and_atoms_alone_decide(self):
        for query in random_queries(60, seed=61):
            turned = ~query
            for order in all_orders(query):
                self.assertIs(is_good(turned, order), is_good(query, order))


class Homes(Case):
    def test_ordinary(self):
        self.assertEqual(list(homes(FAR, ("x", "z", "y")).items()), [("x", "r"), ("y", "s"), ("z", "r")])
        self.assertEqual(list(homes(FAR.with_shown(), ("y", "z", "x")).items()), [("x", "r"), ("y", "s"), ("z", "s")])

    def test_the_first_of_several_atoms(self):
        query = Query(("x",), b=("x", "y"), a=("y", "x"), c=("x",), d=("y",))
        self.assertEqual(homes(query, ("x", "y")), {"x": "a", "y": "a"})
        self.assertEqual(homes(query.with_atom("aa", "x"), ("x", "y")), {"x": "a", "y": "a"})

    def test_by_words(self):
        for query in random_queries(250, seed=62):
            for order in itertools.islice(good_orders(query), 5):
                found = homes(query, order)
                self.assertEqual(list(found), list(query.columns))
                for at, column in enumerate(order):
                    wanted = {column} | {one for one in order[:at] if are_near(query, one, column)}
                    self.assertEqual(found[column], [name for name in query.atoms if wanted <= set(query.atom(name))][0])

    def test_earlier_neighbours_and_last_columns(self):
        for query in random_queries(250, seed=63):
            for order in itertools.islice(good_orders(query), 5):
                for at, column in enumerate(order):
                    near = [one for one in order[:at] if are_near(query, one, column)]
                    self.assertTrue(all(are_near(query, *pair) for pair in itertools.combinations(near, 2)))
                found = homes(query, order)
                for own in query.atoms.values():
                    last = max(own, key=order.index)
                    self.assertLessEqual(set(own), set(query.atom(found[last])))

    def test_errors(self):
        for query in odd_except(lambda one: isinstance(one, Query)):
            self.fails(InvalidQuery, homes, query, ("x", "z", "y"))
            self.fails(InvalidQuery, homes, query, None)
        for order in (*NO_ORDERS, *odd_values()):
            self.fails(InvalidOrder, homes, FAR, order)
        self.fails(InvalidOrder, homes, TRIO, ("x", "y", "z"))
        self.fails(InvalidOrder, homes, RING, ("a", "b", "c", "d"))


class GoodOrders(Case):
    def test_ordinary(self):
        self.assertEqual([good_order(FAR), good_order(TRIO), good_order(BRIDGE)], [("x", "z", "y"), None, None])
        self.assertEqual([good_order(RING), good_order(SHELL)], [None, None])
        self.assertEqual([list(good_orders(query)) for query in (TRIO, BRIDGE, RING, SHELL)], [[], [], [], []])
        self.assertEqual(list(good_orders(FAR.with_shown())), [("x", "z", "y"), ("y", "z", "x"), ("z", "x", "y"),
                                                               ("z", "y", "x")])

    def test_all_columns_together(self):
        first = itertools.islice(good_orders(TOGETHER), 5)
        self.assertEqual(list(first), list(itertools.islice(itertools.permutations(TEN), 5)))
        shown = TOGETHER.with_shown_of(TEN[::-1])
        self.assertEqual([good_order(shown), list(good_orders(shown))], [TEN[::-1], [TEN[::-1]]])

    def test_the_first_ones_of_far_too_many(self):
        free = Query.of((), {"t" + column: (column,) for column in TEN})
        for query in (free, TOGETHER, free.with_shown("j")):
            results = good_orders(query)
            some = [next(results) for _ in range(200)]
            self.assertEqual(some, sorted(set(some)))
            self.assertEqual(some[0], query.shown + query.hidden)

    def test_first_ones_far_from_the_least_order(self):
        # Only one other column can stand before the common one, so most beginnings lead nowhere.
        star = Query.of(TEN[:1], {"t" + one: (one, TEN[9]) for one in TEN[:9]})
        self.assertEqual(next(good_orders(star)), ("a", "j", *TEN[1:9]))
        self.assertEqual(sum(1 for _ in zip(range(1000), good_orders(star))), 1000)

    def test_a_chain_of_ten(self):
        # An order of a chain is good if each column but the first one stands behind exactly one neighbour.
        self.assertEqual(len(list(good_orders(CHAIN))), 2 ** 9)
        self.assertEqual(list(good_orders(CHAIN.with_shown("a"))), [TEN])
        self.assertEqual(good_order(CHAIN.with_shown("a", "c")), None)
        self.assertEqual(good_order(CHAIN.with_shown_of(TEN)), TEN)

    def test_all_orders_of_small_queries(self):
        none = 0
        for query in random_queries(500, seed=64, most_columns=6, most_atoms=6):
            good = [order for order in all_orders(query) if good_by_words(query, order)]
            self.assertEqual(list(good_orders(query)), good)
            self.assertTrue(good_order(query) in good if good else good_order(query) is None)
            none += not good
        self.assertTrue(100 < none < 400, none)

    def test_a_good_order_or_a_witness(self):
        for query in random_queries(300, seed=65, most_columns=7, most_atoms=8):
            self.assertIs(good_order(query) is None, list(witnesses(query)) != [])

    def test_equal_queries_have_equal_orders(self):
        for query in random_queries(80, seed=66):
            same = Query.of(query.shown, dict(reversed(query.atoms.items())), down=query.down)
            self.assertEqual([good_order(same), list(good_orders(same))],
                             [good_order(query), list(good_orders(query))])

    def test_one_by_one(self):
        results = good_orders(FAR.with_shown())
        self.assertTrue(inspect.isgenerator(results))
        self.assertEqual(next(results), ("x", "z", "y"))
        self.assertEqual(len(list(results)), 3)

    def test_errors(self):
        for query in odd_except(lambda one: isinstance(one, Query)):
            self.stays_lazy(InvalidQuery, good_orders, query)
            for function in (good_order, order_paper):
                self.fails(InvalidQuery, function, query)
            for value in (None, ("x", "z", "y"), ("order", ("x", "z", "y"))):
                for function in (is_good, is_order_paper):
                    self.fails(InvalidQuery, function, query, value)


class OrderPapers(Case):
    def test_ordinary(self):
        self.assertEqual([order_paper(TRIO), order_paper(FAR)], [("trio", ("x", "y", "z")), ("order", ("x", "z", "y"))])
        self.assertIn(order_paper(BRIDGE), [("bridge", ("x", "z", "y")), ("bridge", ("y", "z", "x"))])
        self.assertEqual(order_paper(SHELL), ("shell", ("a", "b", "c")))
        self.assertTrue(is_witness(RING, order_paper(RING)))

    def test_papers_of_others(self):
        free = FAR.with_shown()
        for order in itertools.permutations("xyz"):
            self.assertIs(is_order_paper(free, ("order", order)), order[2] != "z")
        for columns in itertools.permutations("abcd"):
            opposite = set(columns[::2]) in ({"a", "c"}, {"b", "d"})
            self.assertIs(is_order_paper(RING, ("ring", columns)), opposite)
        self.assertIs(is_order_paper(BRIDGE, ("bridge", ("y", "z", "x"))), True)
        self.assertIs(is_order_paper(BRIDGE, ("bridge", ("x", "y", "z"))), False)
        self.assertIs(is_order_paper(TRIO, ("trio", ("x", "y", "z"))), True)
        self.assertIs(is_order_paper(TRIO, ("trio", ("y", "x", "z"))), False)
        self.assertIs(is_order_paper(TRIO, ("order", ("x", "y", "z"))), False)
        self.assertIs(is_order_paper(TRIO, ("order", ("x", "z", "y"))), False)

    def test_no_papers(self):
        order = ("x", "z", "y")
        for value in (["order", order], ("order", list(order)), ("order",), ("order", order, None), ("sort", order),
                      ("Order", order), (order, "order"), order, ("order", ("order", order)), (True, order)):
            self.assertIs(is_order_paper(FAR, value), False)
        for value in odd_values():
            for query in (FAR, TRIO, RING):
                self.assertIs(is_order_paper(query, value), False)
            self.assertIs(is_order_paper(FAR, (value, order)), False)
            self.assertIs(is_order_paper(FAR, ("order", value)), False)
            self.assertIs(is_order_paper(RING, ("ring", value)), False)

    def test_small_queries(self):
        for query in random_queries(200, seed=67):
            self.assertIs(is_order_paper(query, order_paper(query)), True)
            good = [order for order in itertools.permutations(query.columns)
                    if is_order_paper(query, ("order", order))]
            self.assertEqual(good, [order for order in all_orders(query) if good_by_words(query, order)])
            self.assertTrue(all(is_order_paper(query, pair) for pair in witnesses(query)))

    def test_nothing_is_changed(self):
        for query in random_queries(40, seed=68):
            same = Query.of(query.shown, query.atoms, down=query.down)
            paper = order_paper(query)
            for order in itertools.islice(good_orders(query), 3):
                first = homes(query, order)
                first.clear()
                self.assertNotEqual(homes(query, order), first)
            self.assertEqual([query, order_paper(query)], [same, paper])


if __name__ == "__main__":
    unittest.main()
