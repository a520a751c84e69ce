"""What is not true, with a query that shows it: [0.15]."""

import unittest

from pagewise.layers.layers import total
from pagewise.orders.beginnings import completed, sort_orders
from pagewise.orders.good import good_order, is_good
from pagewise.queries.queries import Query
from pagewise.shapes.rings import rings, shells
from pagewise.tables.answers import solutions
from tests.cases import BRIDGE, FAR, RING, ROWS, SHELL, TRIO


class Guarantee(unittest.TestCase):
    def test_no_ring_and_no_good_order(self):
        self.assertEqual([list(rings(SHELL)), good_order(SHELL)], [[], None])

    def test_another_sort_order(self):
        self.assertEqual(sorted(TRIO.shown), sorted(FAR.shown))
        self.assertEqual([good_order(FAR), good_order(TRIO)], [("x", "z", "y"), None])

    def test_the_reverse_of_a_sort_order(self):
        good = list(sort_orders(TRIO))
        self.assertIn(("z", "x", "y"), good)
        self.assertNotIn(("y", "x", "z"), good)

    def test_the_columns_of_a_beginning_in_another_order(self):
        longer = TRIO.with_atom("t", "w", "z").with_shown("x", "y", "z", "w")
        for query in (TRIO, longer):
            self.assertIsNotNone(completed(query, ("x", "z", "y")))
            self.assertIsNone(completed(query, ("x", "y", "z")))

    def test_hiding_a_column(self):
        self.assertEqual([FAR.with_shown("x", "y"), good_order(BRIDGE)], [BRIDGE, None])
        self.assertIsNotNone(good_order(FAR))

    def test_showing_one_more_column(self):
        self.assertIsNotNone(good_order(FAR.with_shown("x")))
        self.assertIsNone(good_order(FAR.with_shown("x", "y")))

    def test_leaving_out_an_atom(self):
        covered = SHELL.with_atom("s", "a", "b", "c")
        self.assertTrue(is_good(covered, ("a", "b", "c")))
        self.assertEqual([covered.without_atom("s"), good_order(SHELL)], [SHELL, None])

    def test_two_queries_together(self):
        first, second = SHELL.without_atom("r"), Query((), r=("a", "c"))
        self.assertIsNotNone(good_order(first))
        self.assertIsNotNone(good_order(second))
        self.assertEqual([first | second, good_order(first | second)], [SHELL, None])

    def test_answers_and_solutions(self):
        self.assertEqual([total(FAR.with_shown("x", "z"), ROWS), len(list(solutions(FAR, ROWS)))], [3, 5])

    def test_tables_that_agree_by_twos(self):
        like, unlike = ((0, 0), (1, 1)), ((0, 1), (1, 0))
        ring = {"p": like, "q": like, "r": like, "s": unlike}
        shell = {"p": like, "q": like, "r": unlike}
        for query, tables in ((RING, ring), (SHELL, shell)):
            self.assertTrue(list(rings(query)) or list(shells(query)))
            # Each two atoms have one common column at most, and it has the values 0 and 1 in both.
            self.assertEqual({row[at] for rows in tables.values() for row in rows for at in (0, 1)}, {0, 1})
            self.assertEqual(list(solutions(query, tables)), [])


if __name__ == "__main__":
    unittest.main()
