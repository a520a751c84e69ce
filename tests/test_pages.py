"""Pages: [0.2], [0.5], [0.7], [0.11], [0.14], [0.17], [9.1], [9.2]."""

import inspect
import itertools
import random
import unittest

from pagewise.errors import InvalidNumber, InvalidOrder, InvalidQuery, InvalidRow, InvalidTables, Unsorted
from pagewise.orders.good import good_order, good_orders, is_good
from pagewise.pages.pages import Pages
from pagewise.queries.queries import Query
from pagewise.shapes.witnesses import is_witness
from pagewise.tables.answers import answers
from tests.cases import (BIG, BRIDGE, FAR, LETTERS, RING, ROWS, SHELL, TRIO, Case, good_cases, is_whole, odd_except,
                         odd_values, wide_query, wide_tables)

ORDER = ("x", "z", "y")
ANSWERS = ((1, 1, 5), (1, 2, 5), (1, 2, 6), (2, 2, 5), (2, 2, 6))
NONE = FAR.with_shown()
LOW = FAR.with_shown("x", "z", "y", down=("x", "y"))
NO_ROWS = (None, True, 1, "", (), (1, 2), (1, 2, 3, 4), [1, 2, 3], (1, 2, True), (1, None, 3), ("1", 2, 3), ((1, 2, 3),),
           (1, (2,), 3))
# Pages never change, so those that several tests use are made once.
WIDE = Pages(wide_query(), wide_tables())


def stands_before(query, row, other):
    """Whether the row stands before the other one, by the words of the document."""
    for column, one, two in zip(query.shown, row, other):
        if one != two:
            return one > two if column in query.down else one < two
    return False


def near_rows(rows, size):
    """Shown rows that are answers, and shown rows that are none, before, between and behind them."""
    found = set(itertools.product(range(-1, 4), repeat=size)) if size < 4 else set()
    for row in rows:
        for at in range(size):
            found |= {row[:at] + (row[at] + more,) + row[at + 1:] for more in (-1, 0, 1)}
    return sorted(found) if size else [()]


def no_number(*numbers):
    """The odd values that are none of the numbers."""
    return odd_except(lambda one: is_whole(one) and one in numbers)


class Ordinary(Case):
    def test_properties(self):
        pages = Pages(FAR, ROWS)
        self.assertEqual([pages.query, pages.tables, pages.order, pages.total], [FAR, ROWS, ORDER, 5])
        self.assertEqual([pages[at] for at in range(5)], list(ANSWERS))
        self.assertEqual([row in pages for row in ANSWERS], [True] * 5)

    def test_positions(self):
        pages = Pages(FAR, ROWS)
        self.assertEqual([pages.position_of(row) for row in ANSWERS], [0, 1, 2, 3, 4])
        self.assertEqual([pages.position_of(row) for row in ((0, 9, 9), (1, 1, 4), (1, 1, 6), (1, 9, 0), (3, 0, 0))],
                         [0, 0, 1, 3, 5])
        self.assertEqual([pages.after(ANSWERS[0]), pages.after(ANSWERS[4]), pages.after((0, 0, 0))],
                         [ANSWERS[1], None, ANSWERS[0]])
        self.assertEqual([pages.ahead_of(ANSWERS[0]), pages.ahead_of(ANSWERS[4]), pages.ahead_of((9, 0, 0))],
                         [None, ANSWERS[3], ANSWERS[4]])
        self.assertEqual([pages.between(ANSWERS[1], ANSWERS[3]), pages.between(ANSWERS[3], ANSWERS[1])], [3, 0])
        self.assertEqual([pages.between((0, 0, 0), (9, 0, 0)), pages.between((1, 1, 6), (1, 2, 4))], [5, 0])

    def test_ranges(self):
        pages = Pages(FAR, ROWS)
        self.assertEqual([pages.span(), pages.span(()), pages.starts()], [(0, 5), (0, 5), 5])
        self.assertEqual([pages.span((1,)), pages.span((2, 2)), pages.span((2, 2, 6)), pages.span((2, 1))],
                         [(0, 3), (3, 5), (4, 5), (3, 3)])
        self.assertEqual([pages.span((0,)), pages.span((3,)), pages.span((1, 2, 7))], [(0, 0), (5, 5), (3, 3)])
        self.assertEqual([pages.starts((1,)), pages.starts((1, 2)), pages.starts((1, 3)), pages.starts((2, 2, 5))],
                         [3, 2, 0, 1])

    def test_pages(self):
        pages = Pages(FAR, ROWS)
        self.assertEqual([pages.page(0), pages.page(1), pages.page(BIG)], [ANSWERS, (), ()])
        self.assertEqual([pages.page(0, size=2), pages.page(2, size=2), pages.page(3, size=2)],
                         [ANSWERS[:2], ANSWERS[4:], ()])
        self.assertEqual([pages.page(4, size=1), pages.page(0, size=1000), pages.page(1, size=5)],
                         [ANSWERS[4:], ANSWERS, ()])

    def test_walks(self):
        pages = Pages(FAR, ROWS)
        self.assertEqual(tuple(pages.walk()), ANSWERS)
        self.assertEqual([tuple(pages.walk(start=3)), tuple(pages.walk(start=5))], [ANSWERS[3:], ()])
        self.assertEqual([tuple(pages.walk(many=0)), tuple(pages.walk(many=2, start=1)), tuple(pages.walk(many=None)),
                          tuple(pages.walk(start=4, many=BIG))], [(), ANSWERS[1:3], ANSWERS, ANSWERS[4:]])

    def test_truth_and_texts(self):
        few = Pages(FAR, {**ROWS, "s": ((1, 5),)})
        none = Pages(FAR, {**ROWS, "s": ()})
        self.assertEqual([bool(Pages(FAR, ROWS)), bool(few), bool(none)], [True, True, False])
        self.assertEqual([str(Pages(FAR, ROWS)), str(few), str(none)],
                         ["pages of 5 answers", "pages of 1 answers", "pages of 0 answers"])

    def test_sorted_down(self):
        pages = Pages(LOW, ROWS)
        found = ((2, 2, 6), (2, 2, 5), (1, 1, 5), (1, 2, 6), (1, 2, 5))
        self.assertEqual([pages[at] for at in range(5)], list(found))
        self.assertEqual([pages.position_of(row) for row in found], [0, 1, 2, 3, 4])
        self.assertEqual([pages.position_of((3, 0, 0)), pages.position_of((0, 0, 0)), pages.position_of((2, 2, 7))],
                         [0, 5, 0])
        self.assertEqual([pages.span((1,)), pages.span((3,)), pages.after((2, 2, 0)), pages.ahead_of((2, 2, 0))],
                         [(2, 5), (0, 0), (1, 1, 5), (2, 2, 5)])
        self.assertEqual([pages.between((2, 2, 5), (1, 2, 6)), pages.between((1, 2, 6), (2, 2, 5))], [3, 0])

    def test_one_answer_and_none(self):
        one = Pages(FAR, {"r": ((1, 1),), "s": ((1, 5),)})
        self.assertEqual([one.total, one[0], one.page(0), one.span((1,)), one.ahead_of((1, 1, 6))],
                         [1, (1, 1, 5), ((1, 1, 5),), (0, 1), (1, 1, 5)])
        none = Pages(FAR, {"r": ((1, 1),), "s": ((2, 5),)})
        self.assertEqual([none.total, none.page(0), list(none.walk()), none.span((1,)), none.position_of((9, 9, 9))],
                         [0, (), [], (0, 0), 0])
        self.assertEqual([none.after((0, 0, 0)), none.ahead_of((9, 9, 9)), none.between((0, 0, 0), (9, 9, 9))],
                         [None, None, 0])
        self.assertNotIn((1, 1, 5), none)

    def test_no_shown_columns(self):
        pages = Pages(NONE, ROWS)
        self.assertEqual([pages.total, pages[0], () in pages, (1,) in pages], [1, (), True, False])
        self.assertEqual([pages.position_of(()), pages.after(()), pages.ahead_of(()), pages.between((), ())],
                         [0, None, None, 1])
        self.assertEqual([pages.span(), pages.starts(), pages.page(0), pages.page(1)], [(0, 1), 1, ((),), ()])
        none = Pages(NONE, {"r": (), "s": ()})
        self.assertEqual([none.total, () in none, none.position_of(()), none.span(), none.page(0), bool(none)],
                         [0, False, 0, (0, 0), (), False])

    def test_great_values(self):
        query = Query(("x", "y"), down=("x",), r=("x", "y"))
        pages = Pages(query, {"r": ((-BIG, BIG), (-BIG, BIG + 1), (BIG, 0))})
        self.assertEqual(list(pages.walk()), [(BIG, 0), (-BIG, BIG), (-BIG, BIG + 1)])
        self.assertEqual([pages.position_of((-BIG, 0)), pages.span((-BIG,))], [1, (1, 3)])


class Great(Case):
    def test_ten_tables_with_a_thousand_rows(self):
        self.assertEqual([WIDE.total, str(WIDE)], [10 ** 30, "pages of 1" + "0" * 30 + " answers"])
        for position in (0, 1, 999, 1000, 10 ** 15, 123456789012345678901234567890, 10 ** 30 - 1):
            digits = f"{position:030d}"
            row = tuple(int(digits[at:at + 3]) for at in range(0, 30, 3))
            self.assertEqual([WIDE[position], WIDE.position_of(row)], [row, position])
        self.keeps(InvalidNumber, "value", 10 ** 30, WIDE.__getitem__, 10 ** 30)
        self.assertEqual(WIDE.position_of((0,) * 9 + (1000,)), 1000)
        self.assertEqual(WIDE.position_of((5, 1000) + (0,) * 8), 6 * 10 ** 27)

    def test_great_pages(self):
        self.assertEqual(WIDE.page(10 ** 6)[:2], ((0,) * 7 + (10, 0, 0), (0,) * 7 + (10, 0, 1)))
        self.assertEqual(WIDE.page(10 ** 27 - 1, size=1000)[-1], (999,) * 10)
        self.assertEqual([len(WIDE.page(10 ** 27 - 1, size=1000)), WIDE.page(10 ** 27, size=1000)], [1000, ()])
        self.assertEqual(list(WIDE.walk(start=10 ** 30 - 1)), [(999,) * 10])
        self.assertEqual(next(WIDE.walk(start=10 ** 29)), (100,) + (0,) * 9)

    def test_great_ranges(self):
        self.assertEqual([WIDE.starts((7,)), WIDE.span((7, 8))], [10 ** 27, (7008 * 10 ** 24, 7009 * 10 ** 24)])
        self.assertEqual(WIDE.between((0,) * 10, (999,) * 10), 10 ** 30)
        self.assertEqual([WIDE.after((3,) + (999,) * 9), WIDE.ahead_of((4,) + (0,) * 9)],
                         [(4,) + (0,) * 9, (3,) + (999,) * 9])

    def test_a_chain(self):
        chain = Query.of(LETTERS[:10], {"t" + one: (one, two) for one, two in zip(LETTERS, LETTERS[1:10])},
                         down=LETTERS[:10:2])
        tables = {name: tuple(itertools.product(range(31), repeat=2)) for name in chain.atoms}
        pages = Pages(chain, tables)
        self.assertEqual(pages.total, 31 ** 10)
        for position in (0, 31 ** 5, 31 ** 10 // 3, 31 ** 10 - 1):
            self.assertEqual(pages.position_of(pages[position]), position)
        self.assertEqual(pages[0], (30, 0) * 5)


class Compared(Case):
    """Every result, compared with the sorted list of all answers."""

    def check(self, query, tables, order):
        pages, rows = Pages(query, tables, order=order), list(answers(query, tables))
        self.assertEqual([pages.total, bool(pages), pages.order], [len(rows), rows != [], order])
        self.assertEqual([pages[at] for at in range(len(rows))], rows)
        self.assertEqual([list(pages.walk()), pages.page(0, size=1000)], [rows, tuple(rows)])
        self.check_rows(query, pages, rows)
        self.check_spans(query, pages, rows)

    def check_rows(self, query, pages, rows):
        chance = random.Random(len(rows))
        some = near_rows(rows, len(query.shown))
        for row in chance.sample(some, min(len(some), 25)):
            before = [one for one in rows if stands_before(query, one, row)]
            behind = [one for one in rows if stands_before(query, row, one)]
            self.assertEqual([row in pages, pages.position_of(row)], [row in rows, len(before)])
            self.assertEqual(pages.after(row), behind[0] if behind else None)
            self.assertEqual(pages.ahead_of(row), before[-1] if before else None)
            last = chance.choice(some)
            self.assertEqual(pages.between(row, last), len([one for one in rows if not stands_before(query, one, row)
                                                            and not stands_before(query, last, one)]))

    def check_spans(self, query, pages, rows):
        for many in range(len(query.shown) + 1):
            for values in itertools.islice(itertools.product((1, 0, 2, -1), repeat=many), 20):
                places = [at for at, row in enumerate(rows) if row[:many] == values]
                # The least place of a row with such a beginning would be here.
                first = len([row for row in rows if stands_before(query, row[:many], values)])
                self.assertEqual(pages.span(values), (first, first + len(places)))
                self.assertEqual(pages.starts(values), len(places))
                self.assertEqual(list(range(*pages.span(values))), places)

    def test_small_tables(self):
        many = 0
        for query, tables, order in good_cases(250, seed=90, most_orders=2):
            self.check(query, tables, order)
            many += 1
        self.assertGreater(many, 150)

    def test_pages_of_all_sizes(self):
        for query, tables, order in good_cases(60, seed=91, most_orders=1):
            pages, rows = Pages(query, tables), answers(query, tables)
            rows = tuple(rows)
            for size in (1, 2, 3, 1000):
                for number in range(len(rows) // size + 3):
                    self.assertEqual(pages.page(number, size=size), rows[number * size:number * size + size])
            for start in range(len(rows) + 1):
                for many in (None, 0, 1, 3):
                    self.assertEqual(tuple(pages.walk(start=start, many=many)), rows[start:][:many])

    def test_every_good_order(self):
        for query, tables, order in good_cases(60, seed=92, most_orders=1):
            pages = Pages(query, tables)
            self.assertTrue(is_good(query, pages.order))
            for other in itertools.islice(good_orders(query), 10):
                same = Pages(query, tables, order=other)
                self.assertEqual([same.order, same], [other, pages])
                self.assertEqual([list(same.walk()), same.total], [list(pages.walk()), pages.total])


class Comparing(Case):
    def test_equal(self):
        pages = Pages(FAR, ROWS)
        self.assertTrue(pages == Pages(FAR, dict(ROWS), order=ORDER))
        self.assertFalse(pages != Pages(FAR, dict(reversed(ROWS.items()))))
        for other in (Pages(~FAR, ROWS), Pages(FAR, {**ROWS, "r": ()}), Pages(FAR.with_shown("x", "z"), ROWS)):
            self.assertIs(pages == other, False)
            self.assertIs(pages != other, True)

    def test_good_orders_do_not_matter(self):
        first, second = [Pages(NONE, ROWS, order=order) for order in (("x", "z", "y"), ("z", "y", "x"))]
        self.assertEqual([first.order == second.order, first == second], [False, True])

    def test_every_value(self):
        for value in (*odd_values(), ANSWERS, list(ANSWERS), 5):
            self.assertIs(Pages(FAR, ROWS) == value, False)
            self.assertIs(Pages(FAR, ROWS) != value, True)
            self.assertIs(value == Pages(FAR, ROWS), False)

    def test_contains_every_value(self):
        for value in (*odd_values(), *NO_ROWS, [1, 1, 5], (1, 1, 5, 0), ("1", "1", "5"), (True, 1, 5)):
            self.assertIs(value in Pages(FAR, ROWS), False)
        self.assertIs((True, True, 5) in Pages(FAR, ROWS), False)
        self.assertEqual([value in Pages(NONE, ROWS) for value in odd_values()],
                         [value == () and isinstance(value, tuple) for value in odd_values()])


class States(Case):
    def test_nothing_gives_access(self):
        tables = dict(ROWS)
        pages = Pages(FAR, tables)
        tables["r"] = ()
        pages.tables["s"] = ()
        pages.tables.clear()
        self.assertEqual([pages.tables, pages.total, list(pages.tables)], [ROWS, 5, ["r", "s"]])

    def test_properties_are_not_assigned(self):
        pages = Pages(FAR, ROWS)
        for name in ("query", "tables", "order", "total"):
            with self.assertRaises(AttributeError):
                setattr(pages, name, None)

    def test_no_iteration(self):
        for call in (iter, list, tuple, sorted):
            self.fails(TypeError, call, Pages(FAR, ROWS))

    def test_keys_ascend(self):
        self.assertEqual(list(Pages(FAR, dict(reversed(ROWS.items()))).tables), ["r", "s"])

    def test_one_by_one(self):
        results = Pages(FAR, ROWS).walk(start=1)
        self.assertTrue(inspect.isgenerator(results))
        self.assertEqual([next(results), next(results), len(list(results))], [ANSWERS[1], ANSWERS[2], 2])


class Errors(Case):
    def test_wrong_query(self):
        for query in (*odd_except(lambda one: isinstance(one, Query)), Pages(FAR, ROWS)):
            for tables in (ROWS, None):
                self.fails(InvalidQuery, Pages, query, tables)
                self.fails(InvalidQuery, Pages, query, tables, order=())

    def test_wrong_tables(self):
        for tables in (*odd_except(lambda one: one is ROWS), Pages(FAR, ROWS), {**ROWS, "s": ((2, 5), (1, 5))}):
            for query in (FAR, TRIO):
                self.fails(InvalidTables, Pages, query, tables)
                self.fails(InvalidTables, Pages, query, tables, order=("x", "y", "z"))
        many = tuple((number,) for number in range(1001))
        self.assertEqual(Pages(Query(("x",), r=("x",)), {"r": many[:1000]}).total, 1000)
        self.fails(InvalidTables, Pages, Query(("x",), r=("x",)), {"r": many})

    def test_wrong_order(self):
        for order in (("x", "y", "z"), ("z", "x", "y"), list(ORDER), *odd_except(lambda one: one is None)):
            for query in (FAR, TRIO, BRIDGE):
                self.fails(InvalidOrder, Pages, query, ROWS, order=order)

    def test_no_good_order(self):
        for query in (TRIO, BRIDGE, RING, SHELL):
            tables = {name: () for name in query.atoms}
            for named in ({}, {"order": None}):
                self.assertTrue(is_witness(query, self.fails(Unsorted, Pages, query, tables, **named).witness))
            self.assertIsNone(good_order(query))

    def test_wrong_positions(self):
        for position in (5, -1, BIG, -5, slice(0, 2), *no_number(0, 1, 2)):
            self.keeps(InvalidNumber, "value", position, Pages(FAR, ROWS).__getitem__, position)
        self.keeps(InvalidNumber, "value", 0, Pages(FAR, {"r": (), "s": ()}).__getitem__, 0)
        self.keeps(InvalidNumber, "value", 1, Pages(NONE, ROWS).__getitem__, 1)

    def test_wrong_rows(self):
        pages = Pages(FAR, ROWS)
        for row in (*NO_ROWS, *odd_values()):
            for method in (pages.position_of, pages.after, pages.ahead_of):
                self.fails(InvalidRow, method, row)
            for other in (ANSWERS[0], None):
                self.fails(InvalidRow, pages.between, row, other)
            self.fails(InvalidRow, pages.between, ANSWERS[0], row)
        self.fails(InvalidRow, Pages(NONE, ROWS).position_of, (1,))

    def test_wrong_values(self):
        pages = Pages(FAR, ROWS)
        for values in ((1, 2, 3, 4), (True,), (1, None), [1], (1, "2"),
                       *odd_except(lambda one: isinstance(one, tuple) and all(map(is_whole, one)))):
            for method in (pages.span, pages.starts):
                self.fails(InvalidRow, method, values)
        self.fails(InvalidRow, Pages(NONE, ROWS).span, (1,))

    def test_wrong_numbers(self):
        pages = Pages(FAR, ROWS)
        for number in (-1, -BIG, *no_number(0, 1, 2, 7, 10, 11, BIG)):
            for named in ({}, {"size": 0}):
                self.keeps(InvalidNumber, "value", number, pages.page, number, **named)
        for size in (0, 1001, -1, *no_number(1, 2, 7, 10, 11)):
            self.keeps(InvalidNumber, "value", size, pages.page, 0, size=size)
        for start in (-1, 6, BIG, *no_number(0, 1, 2)):
            for many in (None, -1):
                error = self.stays_lazy(InvalidNumber, lambda: pages.walk(start=start, many=many))
                self.assertIs(error.value, start)
        for many in (-1, *odd_except(lambda one: one is None or is_whole(one) and one >= 0)):
            error = self.stays_lazy(InvalidNumber, lambda: pages.walk(start=5, many=many))
            self.assertIs(error.value, many)


if __name__ == "__main__":
    unittest.main()
