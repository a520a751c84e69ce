"""Groups and sums: [0.1], [0.7], [0.14], [10.1]."""

import inspect
import itertools
import unittest

from pagewise.errors import InvalidNumber, InvalidOperation, InvalidRow, UnknownName
from pagewise.keys.keys import KeyedPages
from pagewise.live.live import Live
from pagewise.pages.pages import Pages
from pagewise.pages.sums import cuts, extremes, groups, middle, sum_of, tally
from pagewise.queries.queries import Query
from pagewise.tables.answers import answers
from tests.cases import (BIG, FAR, LETTERS, ROWS, Case, good_cases, is_whole, odd_except, odd_values, wide_query,
                         wide_tables)

PAGES = Pages(FAR, ROWS)
LOW = Pages(FAR.with_shown("x", "z", "y", down=("z", "y")), ROWS)
NONE = Pages(FAR, {"r": (), "s": ()})
WIDE = Pages(wide_query(down=("b",)), wide_tables())
CHAIN = Query.of(LETTERS[:10], {"t" + one: (one, two) for one, two in zip(LETTERS, LETTERS[1:10])})
NO_VALUES = ((1, 2, 3, 4), (True,), (1, None), [1], (1, "2"))


def beginning(rows, values):
    return [row for row in rows if row[:len(values)] == values]


class Ordinary(Case):
    def test_groups(self):
        self.assertEqual(list(groups(PAGES)), [(1, 3), (2, 2)])
        self.assertEqual([list(groups(PAGES, (1,))), list(groups(PAGES, (1, 2)))], [[(1, 1), (2, 2)], [(5, 1), (6, 1)]])
        self.assertEqual([list(groups(PAGES, (3,))), list(groups(PAGES, (1, 3))), list(groups(NONE))], [[], [], []])

    def test_groups_sorted_down(self):
        self.assertEqual([list(groups(LOW)), list(groups(LOW, (1,))), list(groups(LOW, (2, 2)))],
                         [[(1, 3), (2, 2)], [(2, 2), (1, 1)], [(6, 1), (5, 1)]])

    def test_sums(self):
        self.assertEqual([sum_of(PAGES, column) for column in "xzy"], [7, 9, 27])
        self.assertEqual([sum_of(PAGES, "y", (1,)), sum_of(PAGES, "x", (1,)), sum_of(PAGES, "z", (1, 2))], [16, 3, 4])
        self.assertEqual([sum_of(PAGES, "y", (3,)), sum_of(PAGES, "x", (3,)), sum_of(NONE, "x")], [0, 0, 0])
        self.assertEqual([sum_of(LOW, column) for column in "xzy"], [7, 9, 27])

    def test_extremes(self):
        self.assertEqual([extremes(PAGES, column) for column in "xzy"], [(1, 2), (1, 2), (5, 6)])
        self.assertEqual([extremes(LOW, column) for column in "xzy"], [(1, 2), (1, 2), (5, 6)])
        self.assertEqual([extremes(PAGES, "z", (2,)), extremes(PAGES, "y", (1, 1)), extremes(PAGES, "x", (2, 2, 6))],
                         [(2, 2), (5, 5), (2, 2)])
        self.assertEqual([extremes(PAGES, "y", (3,)), extremes(NONE, "y"), extremes(PAGES, "x", (1, 7))], [None] * 3)

    def test_tallies(self):
        for pages in (PAGES, LOW):
            self.assertEqual([list(tally(pages, column).items()) for column in "xzy"],
                             [[(1, 3), (2, 2)], [(1, 1), (2, 4)], [(5, 3), (6, 2)]])
            self.assertEqual([tally(pages, "y", (1,)), tally(pages, "y", (1, 2, 6)), tally(pages, "x", (1,))],
                             [{5: 2, 6: 1}, {6: 1}, {1: 3}])
            self.assertEqual([tally(pages, "y", (9,)), tally(pages, "x", (9,)), tally(NONE, "z")], [{}, {}, {}])

    def test_middles(self):
        self.assertEqual([middle(PAGES), middle(PAGES, (1,)), middle(PAGES, (2,)), middle(PAGES, (2, 2, 6))],
                         [(1, 2, 6), (1, 2, 5), (2, 2, 5), (2, 2, 6)])
        self.assertEqual([middle(PAGES, (3,)), middle(NONE), middle(PAGES, (1, 2, 4))], [None, None, None])
        self.assertEqual([middle(LOW), middle(LOW, (2,))], [(1, 1, 5), (2, 2, 6)])

    def test_cuts(self):
        self.assertEqual([cuts(PAGES, 1), cuts(PAGES, 2), cuts(PAGES, 5), cuts(PAGES, 7)],
                         [(0, 5), (0, 2, 5), (0, 1, 2, 3, 4, 5), (0, 0, 1, 2, 2, 3, 4, 5)])
        self.assertEqual([cuts(NONE, 2), len(cuts(PAGES, 100))], [(0, 0, 0), 101])

    def test_no_shown_columns(self):
        one, none = [Pages(FAR.with_shown(), tables) for tables in (ROWS, {"r": (), "s": ()})]
        self.assertEqual([middle(one), middle(none), cuts(one, 2), cuts(none, 1)], [(), None, (0, 0, 1), (0, 0)])
        self.stays_lazy(InvalidRow, groups, one)
        self.keeps(UnknownName, "name", "x", sum_of, one, "x")

    def test_hidden_columns(self):
        pages = Pages(Query(("x", "y"), r=("x", "y"), s=("y", "h"), t=("g",)),
                      {"r": ((1, 1), (1, 2), (1, 3), (2, 2)), "s": ((1, 7), (2, 7), (2, 8)), "t": ((0,), (1,))})
        self.assertEqual([list(groups(pages)), tally(pages, "y"), sum_of(pages, "y"), middle(pages)],
                         [[(1, 2), (2, 1)], {1: 1, 2: 2}, 5, (1, 2)])


class Great(Case):
    def test_ten_tables_with_a_thousand_rows(self):
        every = 10 ** 30 * 999 // 2
        self.assertEqual([sum_of(WIDE, column) for column in LETTERS[:10]], [every] * 10)
        self.assertEqual([sum_of(WIDE, "j", (3,)), sum_of(WIDE, "a", (3, 4))], [every // 1000, 3 * 10 ** 24])
        self.assertEqual([extremes(WIDE, "j"), extremes(WIDE, "b"), len(tally(WIDE, "b"))], [(0, 999), (0, 999), 1000])
        self.assertEqual(tally(WIDE, "c", (3, 4))[999], 10 ** 21)
        self.assertEqual(list(tally(WIDE, "b"))[:3], [0, 1, 2])
        self.assertEqual([next(groups(WIDE)), next(groups(WIDE, (7,)))], [(0, 10 ** 27), (999, 10 ** 24)])
        self.assertEqual(middle(WIDE), (499, 0) + (999,) * 8)
        self.assertEqual(middle(WIDE, (7,)), (7, 500) + (999,) * 8)
        self.assertEqual(cuts(WIDE, 3), (0, 10 ** 30 // 3, 10 ** 30 * 2 // 3, 10 ** 30))

    def test_a_chain(self):
        pages = Pages(CHAIN, {name: tuple(itertools.product(range(31), repeat=2)) for name in CHAIN.atoms})
        self.assertEqual([sum_of(pages, "j"), tally(pages, "j", (3,))[30]], [31 ** 10 * 15, 31 ** 8])
        self.assertEqual([middle(pages), cuts(pages, 2)], [(15,) * 10, (0, 31 ** 10 // 2, 31 ** 10)])

    def test_great_values(self):
        pages = Pages(Query(("x",), r=("x",)), {"r": ((-BIG,), (BIG - 1,), (BIG,))})
        self.assertEqual([sum_of(pages, "x"), extremes(pages, "x")], [BIG - 1, (-BIG, BIG)])


class Compared(Case):
    """Every result, compared with the sorted list of all answers."""

    def check(self, query, pages, rows, values):
        some = beginning(rows, values)
        if len(values) < len(query.shown):
            self.assertEqual(list(groups(pages, values)), [(value, len(list(group))) for value, group in
                                                           itertools.groupby(some, lambda row: row[len(values)])])
        for at, column in enumerate(query.shown):
            found = sorted(row[at] for row in some)
            counts = {value: found.count(value) for value in found}
            self.assertEqual([list(tally(pages, column, values).items()), sum_of(pages, column, values)],
                             [list(counts.items()), sum(found)])
            self.assertEqual(extremes(pages, column, values), (found[0], found[-1]) if found else None)
        self.assertEqual(middle(pages, values), some[(len(some) - 1) // 2] if some else None)

    def test_small_tables(self):
        many = 0
        for query, tables, order in good_cases(250, seed=100, most_orders=2):
            pages, rows = Pages(query, tables, order=order), list(answers(query, tables))
            for size in range(len(query.shown) + 1):
                for values in itertools.islice(itertools.product((1, 0, 2), repeat=size), 12):
                    self.check(query, pages, rows, values)
                    many += 1
            for pieces in (1, 2, 3, 100):
                self.assertEqual(cuts(pages, pieces), tuple(len(rows) * at // pieces for at in range(pieces + 1)))
        self.assertGreater(many, 2000)


class States(Case):
    def test_one_by_one(self):
        results = groups(PAGES, (1,))
        self.assertTrue(inspect.isgenerator(results))
        self.assertEqual([next(results), list(results)], [(1, 1), [(2, 2)]])

    def test_what_is_returned_is_new(self):
        first = tally(PAGES, "y")
        first.clear()
        self.assertEqual([tally(PAGES, "y"), PAGES.total], [{5: 3, 6: 2}, 5])


class Errors(Case):
    def test_wrong_pages(self):
        for pages in (*odd_values(), Live(FAR, tables=ROWS), KeyedPages(FAR, ROWS, ()), [PAGES]):
            for values in ((), None):
                error = self.stays_lazy(InvalidOperation, lambda: groups(pages, values))
                self.assertIs(type(error), InvalidOperation)
                self.fails(InvalidOperation, middle, pages, values)
                for function in (sum_of, extremes, tally):
                    for column in ("x", None):
                        self.fails(InvalidOperation, function, pages, column, values)
            for pieces in (1, 0, None):
                self.fails(InvalidOperation, cuts, pages, pieces)

    def test_wrong_columns(self):
        hidden = Pages(FAR.with_shown("x"), ROWS)
        for function in (sum_of, extremes, tally):
            for values in ((), (True,), (1, 2)):
                self.keeps(UnknownName, "name", "y", function, hidden, "y", values)
                self.keeps(UnknownName, "name", "r", function, hidden, "r", values)
            for column in odd_except(lambda one: one in ("x", "z", "y")):
                self.keeps(UnknownName, "name", column, function, PAGES, column)

    def test_wrong_values(self):
        wrong = [*NO_VALUES, *odd_except(lambda one: isinstance(one, tuple) and all(map(is_whole, one)))]
        for values in wrong:
            self.stays_lazy(InvalidRow, groups, PAGES, values)
            self.fails(InvalidRow, middle, PAGES, values)
            for function in (sum_of, extremes, tally):
                self.fails(InvalidRow, function, PAGES, "x", values)
                self.fails(InvalidRow, function, NONE, "x", values)

    def test_no_next_column(self):
        for values in ((1, 2, 5), (9, 9, 9)):
            self.stays_lazy(InvalidRow, groups, PAGES, values)
            self.stays_lazy(InvalidRow, groups, NONE, values)

    def test_wrong_pieces(self):
        for pieces in (0, 101, -1, BIG, *odd_except(lambda one: is_whole(one) and 1 <= one <= 100)):
            self.keeps(InvalidNumber, "value", pieces, cuts, PAGES, pieces)


if __name__ == "__main__":
    unittest.main()
