"""Rows: [0.1], [0.3] to [0.5], [0.8], [1.1]."""

import functools
import itertools
import random
import unittest

from pagewise.base.rows import before, is_name, is_row, place_of, sorted_rows
from pagewise.errors import InvalidNumber, InvalidOperation, InvalidRow
from tests.cases import BIG, Case, is_whole, odd_except, odd_values

NO_DOWN = (None, True, 1, "", "0", [], [0], {}, (10,), (-1,), (0, 0), (1, 0), (0, True), (False,), ("a",), ((),),
           (0, None), (0, []), (0, 10), (BIG,))
NO_ROW = (None, 3, "12", [], [1, 2], {}, (True,), (1, False), (1, None), (1, "2"), ((1, 2), 3), ([],),
          tuple(range(11)))


def comes_before(row, other, down):
    """The words of [1.1], position by position."""
    for at, (one, two) in enumerate(zip(row, other)):
        if one != two:
            return one > two if at in down else one < two
    return False


class Names(Case):
    def test_names(self):
        for name in ("a", "z", "x", "abcdefgh", "zzzzzzzz", "self", "shown"):
            self.assertIs(is_name(name), True, name)

    def test_other_strings(self):
        for text in ("", "abcdefghi", "A", "aB", "a1", "a b", " a", "a\n", "\n", "a_", "-", "`", "{", "\u00e4", "0"):
            self.assertIs(is_name(text), False, text)

    def test_other_values(self):
        for value in odd_except(lambda one: isinstance(one, str)):
            self.assertIs(is_name(value), False, value)


class IsRow(Case):
    def test_sizes(self):
        for size in range(11):
            self.assertIs(is_row(size, tuple(range(size))), True)
            self.assertIs(is_row(size, tuple(range(size + 1))), False)
            self.assertIs(is_row(size, tuple(range(size - 1))), size == 0)

    def test_integers(self):
        self.assertIs(is_row(2, (BIG, -BIG)), True)
        self.assertIs(is_row(2, (3, True)), False)
        self.assertIs(is_row(2, (False, 3)), False)
        self.assertIs(is_row(1, (None,)), False)
        self.assertIs(is_row(1, ("3",)), False)
        self.assertIs(is_row(2, [1, 2]), False)

    def test_every_value(self):
        for size in (0, 1, 2, 10):
            for value in odd_values():
                fits = type(value) is tuple and len(value) == size and all(is_whole(part) for part in value)
                self.assertIs(is_row(size, value), fits, value)

    def test_wrong_sizes(self):
        for size in [-1, 11, BIG, -BIG, *odd_except(is_whole)]:
            for value in ((), None, (1, 2)):
                self.keeps(InvalidNumber, "value", size, is_row, size, value)


class Sorting(Case):
    def test_ordinary(self):
        self.assertIs(before((1, 2), (1, 3)), True)
        self.assertIs(before((1, 3), (1, 2)), False)
        self.assertIs(before((1, 3), (1, 3)), False)
        self.assertIs(before((1, 3), (1, 2), down=(1,)), True)
        self.assertIs(before((2, 0), (1, 9), down=(0,)), True)
        self.assertIs(before((), ()), False)
        self.assertIs(before((), (), down=(0, 9)), False)
        self.assertIs(before((-BIG,), (BIG,)), True)
        self.assertIs(before((-BIG,), (BIG,), down=(0,)), False)

    def test_ten_integers(self):
        row, other = (0,) * 10, (0,) * 9 + (1,)
        self.assertEqual([before(row, other), before(row, other, down=(9,)), before(other, row, down=(9,))],
                         [True, False, True])

    def test_sorted_rows(self):
        self.assertEqual(sorted_rows(()), ())
        self.assertEqual(sorted_rows((), down=(0,)), ())
        self.assertEqual(sorted_rows(((), ())), ((),))
        self.assertEqual(sorted_rows(((3,), (1,), (3,), (2,))), ((1,), (2,), (3,)))
        self.assertEqual(sorted_rows(((3,), (1,), (3,), (2,)), down=(0, 1, 9)), ((3,), (2,), (1,)))

    def test_all_against_the_words(self):
        chance = random.Random(5)
        for size in range(4):
            rows = list(itertools.product(range(-1, 2), repeat=size))
            for down in ((), (0,), (1,), (0, 2), (1, 2, 7), (9,)):
                for _ in range(20):
                    some = tuple(chance.choices(rows, k=chance.randint(0, 8)))
                    self.check_rows(some, chance.choice(rows), down)

    def check_rows(self, rows, row, down):
        compare = functools.cmp_to_key(lambda a, b: comes_before(b, a, down) - comes_before(a, b, down))
        expected = tuple(sorted(set(rows), key=compare))
        self.assertEqual(sorted_rows(rows, down=down), expected)
        self.assertEqual(place_of(expected, row, down=down), sum(comes_before(one, row, down) for one in expected))
        for other in rows:
            self.assertIs(before(row, other, down=down), comes_before(row, other, down))

    def test_place_of(self):
        rows = ((1, 9), (1, 3), (2, 5))
        self.assertEqual(place_of((), (1, 2)), 0)
        self.assertEqual(place_of(((),), ()), 0)
        self.assertEqual([place_of(rows, row, down=(1,)) for row in ((0, 0), (1, 9), (1, 3), (1, 0), (2, 5), (3, 0))],
                         [0, 0, 1, 2, 2, 3])


class SortingErrors(Case):
    def test_before_wants_rows(self):
        for wrong in NO_ROW:
            self.fails(InvalidRow, before, wrong, (1, 2))
            self.fails(InvalidRow, before, (1, 2), wrong)
            self.fails(InvalidRow, before, wrong, wrong)
        self.fails(InvalidRow, before, (1, 2), (1, 2, 3))
        self.fails(InvalidRow, before, (), (1,))

    def test_down_wants_ascending_positions(self):
        for down in NO_DOWN:
            self.fails(InvalidOperation, before, (1,), (2,), down=down)
            self.fails(InvalidOperation, sorted_rows, ((1,),), down=down)
            self.fails(InvalidOperation, sorted_rows, (), down=down)
            self.fails(InvalidOperation, place_of, ((1,),), (1,), down=down)
        for down in odd_except(lambda one: one in ((), (1,), (1, 2))):
            self.fails(InvalidOperation, before, (1,), (2,), down=down)

    def test_rows_want_one_length(self):
        for wrong in (None, 1, "", [], [(1,)], {}, ((1,), (1, 2)), ((), (1,)), ((1,), [1]), ((1,), True), "ab", (1, 2)):
            self.fails(InvalidRow, sorted_rows, wrong)
            self.fails(InvalidRow, place_of, wrong, (1,))
        for wrong in NO_ROW:
            self.fails(InvalidRow, sorted_rows, (wrong,))
            self.fails(InvalidRow, place_of, ((1, 2),), wrong)
            self.fails(InvalidRow, place_of, (), wrong)
        self.fails(InvalidRow, place_of, ((1, 2),), (1,))
        self.fails(InvalidRow, place_of, ((),), (1,))

    def test_place_of_wants_sorted_rows(self):
        for rows in (((2,), (1,)), ((1,), (1,)), ((1,), (3,), (2,))):
            self.fails(InvalidOperation, place_of, rows, (1,))
        self.fails(InvalidOperation, place_of, ((1,), (2,)), (1,), down=(0,))
        self.fails(InvalidOperation, place_of, ((1, 1), (1, 2)), (1, 1), down=(1,))

    def test_the_first_error_counts(self):
        self.fails(InvalidRow, before, (1,), [2], down=[])
        self.fails(InvalidRow, sorted_rows, [], down=[])
        self.fails(InvalidRow, place_of, ((2,), (1,)), (1, 2), down=[])
        self.fails(InvalidRow, place_of, ((2,), (1,)), (1, 2))
        self.fails(InvalidOperation, place_of, ((2,), (1,)), (1,), down=[])


if __name__ == "__main__":
    unittest.main()
