"""Beginnings of sort orders: [0.14], [7.1], [7.2], [7.3]."""

import inspect
import itertools
import math
import unittest

from pagewise.errors import InvalidOrder, InvalidQuery
from pagewise.orders.beginnings import (beginning_paper, completed, count_sort_orders, is_beginning_paper,
                                        longest_beginning, sort_orders)
from pagewise.orders.good import good_order, is_good
from pagewise.queries.queries import Query
from pagewise.shapes.rings import rings, shells
from pagewise.shapes.witnesses import bridges, is_witness, trios
from tests.cases import (BRIDGE, FAR, LETTERS, RING, SHELL, TRIO, Case, all_orders, good_by_words, odd_except, odd_values,
                         random_queries)

TEN = LETTERS[:10]
TOGETHER = Query.of(TEN, {"r": TEN})
CHAIN = Query.of(TEN, {"t" + one: (two, one) for one, two in zip(TEN, TEN[1:])})
NO_BEGINNINGS = (["x"], "x", None, True, 1, ("x", "x"), ("w",), ("x", "w"), ("x", 1), (("x",),), ("x", "y", "z", "x"),
                 {"x": 1}, ("x", None))


def sorts(query):
    """All sort orders, ascending."""
    return list(itertools.permutations(sorted(query.shown)))


def is_good_sort(query, sort):
    """By going through all orders."""
    shown = query.with_shown_of(sort)
    return any(good_by_words(shown, order) for order in all_orders(shown))


def all_beginnings(query):
    return [columns for size in range(len(query.shown) + 1)
            for columns in itertools.permutations(sorted(query.shown), size)]


def witnesses_by_words(query, beginning):
    """The witnesses of a beginning, each in one form."""
    cut = query.with_shown_of(beginning)
    return ([("ring", columns) for columns in rings(query)] + [("shell", columns) for columns in shells(query)]
            + [("bridge", columns) for columns in (*bridges(query), *bridges(cut))]
            + [("trio", columns) for columns in trios(cut)])


class Completed(Case):
    def test_ordinary(self):
        self.assertEqual([completed(TRIO, ("x",)), completed(TRIO, ("y",))], [("x", "z", "y"), ("y", "z", "x")])
        self.assertEqual([completed(TRIO, ("x", "y")), completed(TRIO, ("x", "y", "z"))], [None, None])
        self.assertIn(completed(TRIO, ("z",)), [("z", "x", "y"), ("z", "y", "x")])
        self.assertIn(completed(TRIO, ()), list(sort_orders(TRIO)))
        self.assertEqual([completed(BRIDGE, ()), completed(BRIDGE, ("x",))], [None, None])
        self.assertEqual([completed(RING, ()), completed(SHELL, ())], [None, None])

    def test_no_shown_columns(self):
        none = FAR.with_shown()
        self.assertEqual([completed(none, ()), list(sort_orders(none)), count_sort_orders(none)], [(), [()], 1])
        self.assertEqual([longest_beginning(none, ()), beginning_paper(none, ())], [(), ("sort", ())])
        self.assertIs(is_beginning_paper(none, (), ("sort", ())), True)
        self.assertEqual([list(sort_orders(RING)), count_sort_orders(RING), longest_beginning(RING, ())], [[], 0, None])

    def test_ten_columns(self):
        self.assertEqual(completed(TOGETHER, TEN[::-1]), TEN[::-1])
        self.assertEqual(completed(TOGETHER, TEN[5:])[:5], TEN[5:])
        self.assertEqual(completed(CHAIN, ("j",)), TEN[::-1])
        found = completed(CHAIN, ("d", "c", "e"))
        self.assertEqual([found[:3], is_good(CHAIN.with_shown_of(found), found)], [("d", "c", "e"), True])
        self.assertIs(completed(CHAIN, ("d", "f")), None)

    def test_directions_do_not_matter(self):
        low = TRIO.with_shown("x", "y", "z", down=("x", "z"))
        self.assertEqual([completed(low, ("x",)), completed(low, ("x", "y"))], [("x", "z", "y"), None])
        self.assertEqual(list(sort_orders(low)), list(sort_orders(TRIO)))

    def test_all_beginnings_of_small_queries(self):
        counts = [0, 0]
        for query in random_queries(250, seed=70, most_columns=5, most_atoms=5):
            good = [sort for sort in sorts(query) if is_good_sort(query, sort)]
            for beginning in all_beginnings(query):
                found = completed(query, beginning)
                fitting = [sort for sort in good if sort[:len(beginning)] == beginning]
                self.assertTrue(found in fitting if fitting else found is None)
                counts[found is None] += 1
        self.assertTrue(min(counts) > 300, counts)


class Papers(Case):
    def test_ordinary(self):
        self.assertEqual(beginning_paper(TRIO, ("x",)), ("sort", ("x", "z", "y")))
        self.assertEqual(beginning_paper(TRIO, ("x", "y", "z")), ("trio", ("x", "y", "z")))
        self.assertIn(beginning_paper(TRIO, ("x", "y")), [("bridge", ("x", "z", "y")), ("bridge", ("y", "z", "x"))])
        self.assertIn(beginning_paper(BRIDGE, ()), [("bridge", ("x", "z", "y")), ("bridge", ("y", "z", "x"))])
        self.assertTrue(is_witness(RING, beginning_paper(RING, ())))
        self.assertEqual(beginning_paper(SHELL, ()), ("shell", ("a", "b", "c")))

    def test_a_trio_of_the_query_is_none_of_a_beginning(self):
        self.assertIs(is_beginning_paper(TRIO, ("x", "y"), ("trio", ("x", "y", "z"))), False)
        self.assertIs(is_beginning_paper(TRIO, ("x", "y", "z"), ("trio", ("x", "y", "z"))), True)
        self.assertIs(is_beginning_paper(TRIO, ("y", "x", "z"), ("trio", ("x", "y", "z"))), False)
        self.assertIs(is_beginning_paper(TRIO, ("y", "x", "z"), ("trio", ("y", "x", "z"))), True)

    def test_a_bridge_of_the_query_is_one_of_each_beginning(self):
        for beginning in ((), ("x",), ("y",), ("x", "y"), ("y", "x")):
            for columns in (("x", "z", "y"), ("y", "z", "x")):
                self.assertIs(is_beginning_paper(BRIDGE, beginning, ("bridge", columns)), True)
        self.assertIs(is_beginning_paper(TRIO, ("x",), ("bridge", ("x", "z", "y"))), False)

    def test_papers_of_others(self):
        for columns in itertools.permutations("xyz"):
            for beginning in ((), ("z",), ("z", "y"), ("x",)):
                good = columns in list(sort_orders(TRIO)) and columns[:len(beginning)] == beginning
                self.assertIs(is_beginning_paper(TRIO, beginning, ("sort", columns)), good)
        for columns in itertools.permutations("abcd"):
            opposite = set(columns[::2]) in ({"a", "c"}, {"b", "d"})
            self.assertIs(is_beginning_paper(RING, (), ("ring", columns)), opposite)

    def test_no_papers(self):
        sort = ("x", "z", "y")
        for value in (["sort", sort], ("sort", list(sort)), ("sort",), ("sort", sort, None), ("order", sort), sort,
                      ("sort", ("x", "z")), ("sort", ("x", "z", "y", "y")), ("sort", ("x", "z", 1)), ("sort", ())):
            self.assertIs(is_beginning_paper(TRIO, ("x",), value), False)
        for value in odd_values():
            for query in (TRIO, BRIDGE, RING, FAR):
                self.assertIs(is_beginning_paper(query, (), value), False)
            self.assertIs(is_beginning_paper(TRIO, (), (value, sort)), False)
            for word in ("sort", "ring", "shell", "bridge", "trio"):
                self.assertIs(is_beginning_paper(TRIO, (), (word, value)), False)

    def test_all_beginnings_of_small_queries(self):
        words = set()
        for query in [RING, *random_queries(150, seed=71, most_columns=5, most_atoms=6)]:
            for beginning in all_beginnings(query):
                paper = beginning_paper(query, beginning)
                words.add(paper[0])
                self.assertIs(is_beginning_paper(query, beginning, paper), True)
                found = witnesses_by_words(query, beginning)
                self.assertIs(found == [], completed(query, beginning) is not None)
                self.assertTrue(all(is_beginning_paper(query, beginning, pair) for pair in found))
                if paper[0] == "sort":
                    self.assertTrue(is_good_sort(query, paper[1]))
                    self.assertEqual(paper[1][:len(beginning)], beginning)
        self.assertEqual(words, {"sort", "ring", "shell", "bridge", "trio"})

    def test_all_pairs_for_small_queries(self):
        for query in random_queries(40, seed=72, most_columns=4, most_atoms=4):
            tuples = [columns for size in range(len(query) + 1)
                      for columns in itertools.permutations(query.columns, size)]
            for beginning in all_beginnings(query):
                found = witnesses_by_words(query, beginning)
                found += [(word, columns[::-1]) for word, columns in found if word == "bridge"]
                rounds = [("ring", columns) for columns in tuples if is_witness(query, ("ring", columns))]
                good = [("sort", sort) for sort in sorts(query)
                        if sort[:len(beginning)] == beginning and is_good_sort(query, sort)]
                for word in ("ring", "shell", "bridge", "trio", "sort", "order"):
                    for columns in tuples:
                        wanted = (word, columns) in found + rounds + good
                        self.assertIs(is_beginning_paper(query, beginning, (word, columns)), wanted)


class SortOrders(Case):
    def test_ordinary(self):
        self.assertEqual(list(sort_orders(TRIO)), [("x", "z", "y"), ("y", "z", "x"), ("z", "x", "y"), ("z", "y", "x")])
        self.assertEqual([list(sort_orders(BRIDGE)), count_sort_orders(BRIDGE)], [[], 0])
        self.assertEqual([count_sort_orders(TRIO), count_sort_orders(FAR), count_sort_orders(RING)], [4, 4, 0])
        one = FAR.with_shown("z")
        self.assertEqual([list(sort_orders(one)), count_sort_orders(one)], [[("z",)], 1])

    def test_ten_columns_that_are_neighbours(self):
        self.assertEqual(count_sort_orders(TOGETHER), math.factorial(10))
        self.assertEqual(list(itertools.islice(sort_orders(TOGETHER), 30)),
                         list(itertools.islice(itertools.permutations(TEN), 30)))
        self.assertEqual(count_sort_orders(TOGETHER.with_shown_of(TEN[:7])), math.factorial(7))

    def test_ten_columns_without_neighbours(self):
        free = Query.of(TEN, {"t" + column: (column,) for column in TEN})
        self.assertEqual(count_sort_orders(free), math.factorial(10))
        self.assertEqual(next(sort_orders(free)), TEN)

    def test_a_chain_of_ten(self):
        found = list(sort_orders(CHAIN))
        self.assertEqual([len(found), count_sort_orders(CHAIN)], [2 ** 9, 2 ** 9])
        self.assertEqual(found, sorted(set(found)))

    def test_all_sort_orders_of_small_queries(self):
        none = 0
        for query in random_queries(300, seed=73, most_columns=5, most_atoms=6):
            good = [sort for sort in sorts(query) if is_good_sort(query, sort)]
            self.assertEqual(list(sort_orders(query)), good)
            self.assertEqual(count_sort_orders(query), len(good))
            none += not good
        self.assertTrue(30 < none < 200, none)

    def test_without_ring_shell_and_bridge(self):
        found = 0
        for query in random_queries(300, seed=74, most_columns=6, most_atoms=6):
            hurt = any([list(rings(query)), list(shells(query)), list(bridges(query))])
            self.assertIs(count_sort_orders(query) == 0, hurt)
            if not hurt:
                for sort in sorts(query):
                    shown = query.with_shown_of(sort)
                    self.assertIs(good_order(shown) is not None, list(trios(shown)) == [])
                    found += 1
        self.assertGreater(found, 1000)

    def test_the_last_column_does_not_depend_on_the_order_of_the_others(self):
        for query in random_queries(300, seed=75, most_columns=5):
            last = {}
            good = set(sort_orders(query))
            for sort in good:
                for size in range(1, len(sort) + 1):
                    last.setdefault(frozenset(sort[:size]), set()).add(sort[size - 1])
            for sort in good:
                for size in range(1, len(sort) + 1):
                    for column in last[frozenset(sort[:size])]:
                        turned = tuple(one for one in sort[:size] if one != column) + (column,) + sort[size:]
                        self.assertIn(turned, good)

    def test_one_by_one(self):
        results = sort_orders(TRIO)
        self.assertTrue(inspect.isgenerator(results))
        self.assertEqual([next(results), len(list(results))], [("x", "z", "y"), 3])

    def test_errors(self):
        for query in odd_except(lambda one: isinstance(one, Query)):
            self.stays_lazy(InvalidQuery, sort_orders, query)
            self.fails(InvalidQuery, count_sort_orders, query)


class LongestBeginnings(Case):
    def test_ordinary(self):
        self.assertEqual(longest_beginning(TRIO, ("x", "y", "z")), ("x",))
        self.assertEqual(longest_beginning(TRIO, ("z", "y", "x")), ("z", "y", "x"))
        self.assertEqual(longest_beginning(TRIO, ("z", "y")), ("z", "y"))
        self.assertEqual([longest_beginning(TRIO, ()), longest_beginning(BRIDGE, ("x",)), longest_beginning(BRIDGE, ())],
                         [(), None, None])
        self.assertEqual(longest_beginning(CHAIN, ("d", "e", "g", "f")), ("d", "e"))

    def test_all_wishes_of_small_queries(self):
        for query in random_queries(200, seed=76, most_columns=5):
            good = [sort for sort in sorts(query) if is_good_sort(query, sort)]
            for wish in all_beginnings(query):
                fitting = [wish[:size] for size in range(len(wish) + 1)
                           if any(sort[:size] == wish[:size] for sort in good)]
                self.assertEqual(longest_beginning(query, wish), fitting[-1] if fitting else None)
                self.assertEqual(fitting, [wish[:size] for size in range(len(fitting))])


class Errors(Case):
    def test_wrong_query(self):
        for query in odd_except(lambda one: isinstance(one, Query)):
            for beginning in ((), ("x",), None):
                for function in (completed, beginning_paper, longest_beginning):
                    self.fails(InvalidQuery, function, query, beginning)
                self.fails(InvalidQuery, is_beginning_paper, query, beginning, None)

    def test_wrong_beginning(self):
        wrong = [*NO_BEGINNINGS, *odd_except(lambda one: one in ((), ("x",), ("x", "z")))]
        for beginning in wrong:
            for function in (completed, beginning_paper, longest_beginning):
                self.fails(InvalidOrder, function, TRIO, beginning)
            for value in (None, ("sort", ("x", "z", "y"))):
                self.fails(InvalidOrder, is_beginning_paper, TRIO, beginning, value)
        for function in (completed, beginning_paper, longest_beginning):
            self.fails(InvalidOrder, function, BRIDGE, ("z",))
            self.fails(InvalidOrder, function, RING, ("a",))

    def test_nothing_is_changed(self):
        for query in random_queries(30, seed=79):
            same = Query.of(query.shown, query.atoms, down=query.down)
            first = [list(sort_orders(query)), count_sort_orders(query), beginning_paper(query, query.shown)]
            self.assertEqual([list(sort_orders(same)), count_sort_orders(same), beginning_paper(same, same.shown)], first)
            self.assertEqual(query, same)
            for sort in first[0]:
                shown = query.with_shown_of(sort)
                self.assertTrue(is_good(shown, good_order(shown)))


if __name__ == "__main__":
    unittest.main()
