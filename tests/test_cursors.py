"""Cursors: [0.2], [0.5], [0.7], [0.14], [12.1], [12.2]."""

import inspect
import random
import unittest

from pagewise.errors import InvalidNumber, InvalidOperation, InvalidRow
from pagewise.live.cursors import Cursor
from pagewise.live.live import Live
from pagewise.pages.pages import Pages
from pagewise.tables.answers import answers
from tests.cases import BIG, FAR, ROWS, Case, good_cases, is_whole, odd_except, odd_values, wide_query, wide_tables
from tests.test_live import random_edits
from tests.test_pages import stands_before

ANSWERS = ((1, 1, 5), (1, 2, 5), (1, 2, 6), (2, 2, 5), (2, 2, 6))


def some_cursor(position=0, tables=ROWS):
    cursor = Cursor(Live(FAR, tables=tables))
    cursor.at(position)
    return cursor


def both(position=0):
    live = Live(FAR, tables=ROWS)
    cursor = Cursor(live)
    cursor.at(position)
    return live, cursor


def place(cursor):
    return [cursor.anchor, cursor.row, cursor.position]


class Ordinary(Case):
    def test_a_new_cursor(self):
        self.assertEqual(place(Cursor(Live(FAR, tables=ROWS))), [ANSWERS[0], ANSWERS[0], 0])
        self.assertEqual(place(Cursor(Live(FAR))), [None, None, 0])

    def test_onward(self):
        cursor = some_cursor()
        self.assertEqual([cursor.onward() for _ in range(6)], [*ANSWERS[1:], None, None])
        self.assertEqual(place(cursor), [None, None, 5])

    def test_back(self):
        cursor = some_cursor(5)
        self.assertEqual([cursor.back() for _ in range(7)], [*reversed(ANSWERS), None, None])
        self.assertEqual(place(cursor), [ANSWERS[0], ANSWERS[0], 0])

    def test_back_where_there_is_none_changes_nothing(self):
        cursor = some_cursor()
        cursor.to((0, 9, 9))
        self.assertEqual([cursor.back(), place(cursor)], [None, [(0, 9, 9), ANSWERS[0], 0]])
        empty = Cursor(Live(FAR))
        self.assertEqual([empty.back(), place(empty), empty.onward(), place(empty)],
                         [None, [None, None, 0], None, [None, None, 0]])

    def test_at(self):
        cursor = some_cursor()
        for position in (3, 0, 4, 2, 1):
            self.assertEqual([cursor.at(position), place(cursor)],
                             [ANSWERS[position], [ANSWERS[position], ANSWERS[position], position]])
        self.assertEqual([cursor.at(5), place(cursor)], [None, [None, None, 5]])
        empty = Cursor(Live(FAR))
        self.assertEqual([empty.at(0), place(empty)], [None, [None, None, 0]])

    def test_to(self):
        cursor = some_cursor()
        self.assertEqual([cursor.to((1, 2, 6)), place(cursor)], [(1, 2, 6), [(1, 2, 6), (1, 2, 6), 2]])
        self.assertEqual([cursor.to((1, 3, 0)), place(cursor)], [(2, 2, 5), [(1, 3, 0), (2, 2, 5), 3]])
        self.assertEqual([cursor.to((9, 9, 9)), place(cursor)], [None, [(9, 9, 9), None, 5]])
        self.assertEqual([cursor.to_end(), place(cursor)], [None, [None, None, 5]])

    def test_from_an_anchor_that_is_no_answer(self):
        cursor = some_cursor()
        cursor.to((1, 3, 0))
        self.assertEqual([cursor.onward(), cursor.anchor], [(2, 2, 6), (2, 2, 6)])
        cursor.to((1, 3, 0))
        self.assertEqual([cursor.back(), cursor.anchor], [(1, 2, 6), (1, 2, 6)])
        cursor.to((9, 9, 9))
        self.assertEqual([cursor.onward(), place(cursor)], [None, [None, None, 5]])
        cursor.to((9, 9, 9))
        self.assertEqual([cursor.back(), place(cursor)], [(2, 2, 6), [(2, 2, 6), (2, 2, 6), 4]])

    def test_take(self):
        cursor = some_cursor(1)
        self.assertEqual([cursor.take(size=2), place(cursor)], [ANSWERS[1:3], [ANSWERS[3], ANSWERS[3], 3]])
        self.assertEqual([cursor.take(size=2), place(cursor)], [ANSWERS[3:], [None, None, 5]])
        self.assertEqual([cursor.take(), cursor.take(size=1), place(cursor)], [(), (), [None, None, 5]])
        self.assertEqual([some_cursor().take(), some_cursor().take(size=1000), some_cursor(4).take(size=1)],
                         [ANSWERS, ANSWERS, ANSWERS[4:]])
        cursor.to((1, 1, 6))
        self.assertEqual([cursor.take(size=1), cursor.anchor], [((1, 2, 5),), (1, 2, 6)])
        cursor.to((9, 9, 9))
        self.assertEqual([cursor.take(), cursor.anchor], [(), None])

    def test_one_answer_and_no_shown_columns(self):
        live = Live(FAR.with_shown(), tables=ROWS)
        cursor = Cursor(live)
        self.assertEqual([place(cursor), str(cursor)], [[(), (), 0], "cursor at 0 of 1"])
        self.assertEqual([list(cursor.rest()), place(cursor), cursor.back(), cursor.take()], [[()], [None, None, 1], (), ((),)])
        self.assertEqual([cursor.to(()), cursor.anchor, live.change(tuple(("drop", "r", row) for row in ROWS["r"]))],
                         [(), (), 3])
        self.assertEqual([place(cursor), live.undo(), place(cursor)], [[(), None, 0], 0, [(), (), 0]])

    def test_sorted_down(self):
        cursor = Cursor(Live(~FAR, tables=ROWS))
        self.assertEqual([cursor.row, cursor.onward(), cursor.to((2, 1, 9)), cursor.position],
                         [ANSWERS[4], ANSWERS[3], ANSWERS[2], 2])

    def test_texts(self):
        cursor = some_cursor(3)
        self.assertEqual(str(cursor), "cursor at 3 of 5")
        cursor.to_end()
        self.assertEqual([str(cursor), str(Cursor(Live(FAR)))], ["cursor at 5 of 5", "cursor at 0 of 0"])

    def test_great_tables(self):
        cursor = Cursor(Live(wide_query(), tables=wide_tables()))
        self.assertEqual([cursor.at(10 ** 29), cursor.onward()], [(100,) + (0,) * 9, (100,) + (0,) * 8 + (1,)])
        self.assertEqual([cursor.to((499,) * 10), str(cursor)], [(499,) * 10, f"cursor at {'499' * 10} of {10 ** 30}"])
        self.assertEqual([len(cursor.take(size=1000)), cursor.row], [1000, (499,) * 8 + (500, 499)])
        self.assertEqual([len(cursor.take()), cursor.row], [10, (499,) * 8 + (500, 509)])


class Changes(Case):
    def test_other_rows_come_and_go(self):
        live, cursor = both(2)
        live.put("r", (0, 1))
        self.assertEqual([place(cursor), str(cursor)], [[ANSWERS[2], ANSWERS[2], 3], "cursor at 3 of 6"])
        live.change((("drop", "r", (0, 1)), ("drop", "r", (1, 1))))
        self.assertEqual(place(cursor), [ANSWERS[2], ANSWERS[2], 1])
        live.put("s", (2, 9))
        self.assertEqual(place(cursor), [ANSWERS[2], ANSWERS[2], 1])

    def test_its_answer_goes_and_comes_again(self):
        live, cursor = both(2)
        live.drop("s", (2, 6))
        self.assertEqual(place(cursor), [(1, 2, 6), (2, 2, 5), 2])
        live.drop("r", (2, 2))
        self.assertEqual(place(cursor), [(1, 2, 6), None, 2])
        self.assertEqual([live.undo(many=2), place(cursor)], [0, [(1, 2, 6), (1, 2, 6), 2]])
        self.assertEqual([live.redo(many=2), place(cursor)], [2, [(1, 2, 6), None, 2]])
        live.put("s", (2, 6))
        self.assertEqual(place(cursor), [(1, 2, 6), (1, 2, 6), 2])

    def test_at_the_end(self):
        live, cursor = both(5)
        live.put("s", (2, 9))
        self.assertEqual(place(cursor), [None, None, 7])
        cursor.to((2, 2, 7))
        self.assertEqual(place(cursor), [(2, 2, 7), (2, 2, 9), 6])
        live.undo()
        self.assertEqual(place(cursor), [(2, 2, 7), None, 5])
        live.redo()
        self.assertEqual(place(cursor), [(2, 2, 7), (2, 2, 9), 6])
        empty = Live(FAR)
        stays = Cursor(empty)
        empty.change((("put", "r", (1, 1)), ("put", "s", (1, 1))))
        self.assertEqual([place(stays), stays.back()], [[None, None, 1], (1, 1, 1)])

    def test_trials(self):
        live, cursor = both(3)
        with live.trial() as trial:
            live.drop("r", (2, 2))
            self.assertEqual(place(cursor), [ANSWERS[3], None, 3])
            live.put("r", (3, 1))
            self.assertEqual(place(cursor), [ANSWERS[3], (3, 1, 5), 3])
        self.assertEqual(place(cursor), [ANSWERS[3], ANSWERS[3], 3])
        with live.trial() as trial:
            live.drop("r", (1, 2))
            trial.keep()
            self.assertEqual(cursor.onward(), ANSWERS[4])
        self.assertEqual(place(cursor), [ANSWERS[4], ANSWERS[4], 2])
        live.attempt(lambda book: cursor.at(0))
        self.assertEqual(place(cursor), [ANSWERS[0], ANSWERS[0], 0])


class Rest(Case):
    def test_ordinary(self):
        cursor = some_cursor(2)
        self.assertEqual([list(cursor.rest()), place(cursor), list(cursor.rest())],
                         [list(ANSWERS[2:]), [None, None, 5], []])
        cursor.to((1, 3, 0))
        self.assertEqual([list(cursor.rest()), cursor.anchor], [list(ANSWERS[3:]), None])

    def test_one_by_one(self):
        cursor = some_cursor(1)
        results = cursor.rest()
        self.assertTrue(inspect.isgenerator(results))
        self.assertEqual(cursor.row, ANSWERS[1])
        self.assertEqual([next(results), cursor.anchor, next(results), cursor.anchor],
                         [ANSWERS[1], ANSWERS[2], ANSWERS[2], ANSWERS[3]])

    def test_rows_change_in_between(self):
        live, cursor = both()
        results = cursor.rest()
        self.assertEqual(next(results), (1, 1, 5))
        live.change((("drop", "s", (2, 5)), ("put", "s", (2, 7))))
        self.assertEqual([next(results), next(results)], [(1, 2, 6), (1, 2, 7)])
        # The anchor is (2, 2, 6) by now, so what comes again before it is not yielded.
        live.undo()
        self.assertEqual([next(results), list(results)], [(2, 2, 6), []])

    def test_the_cursor_changes_in_between(self):
        live, cursor = both()
        results = cursor.rest()
        self.assertEqual(next(results), ANSWERS[0])
        cursor.at(3)
        self.assertEqual([next(results), cursor.back(), cursor.back(), next(results)],
                         [ANSWERS[3], ANSWERS[3], ANSWERS[2], ANSWERS[2]])
        cursor.to((0, 0, 0))
        self.assertEqual(next(results), ANSWERS[0])
        cursor.to_end()
        self.assertEqual(list(results), [])

    def test_an_answer_comes_at_the_end(self):
        live, cursor = both(4)
        results = cursor.rest()
        self.assertEqual([next(results), cursor.anchor], [ANSWERS[4], None])
        live.put("s", (2, 9))
        self.assertEqual(list(results), [])

    def test_two_at_once(self):
        cursor = some_cursor()
        first, second = cursor.rest(), cursor.rest()
        self.assertEqual([next(first), next(second), next(first), list(second), list(first)],
                         [ANSWERS[0], ANSWERS[1], ANSWERS[2], list(ANSWERS[3:]), []])


class Twins(Case):
    def test_independent(self):
        live, cursor = both(1)
        twin = cursor.twin()
        self.assertEqual([twin == cursor, place(twin)], [True, place(cursor)])
        twin.onward()
        self.assertEqual([twin == cursor, twin.row, cursor.row], [False, ANSWERS[2], ANSWERS[1]])
        cursor.onward()
        self.assertTrue(twin == cursor)
        live.drop("s", (2, 6))
        self.assertEqual([twin.row, cursor.row], [ANSWERS[3], ANSWERS[3]])
        for anchor in ((0, 0, 0), (9, 9, 9)):
            cursor.to(anchor)
            self.assertEqual(cursor.twin().anchor, anchor)
        cursor.to_end()
        self.assertEqual([cursor.twin().anchor, cursor.twin() == cursor], [None, True])

    def test_comparing(self):
        live, cursor = both(1)
        other = Cursor(live)
        self.assertEqual([cursor == other, cursor != other], [False, True])
        self.assertEqual([other.at(1), cursor == other, cursor != other], [ANSWERS[1], True, False])
        # Equal live objects are still two.
        stranger = some_cursor(1)
        self.assertEqual([place(stranger) == place(cursor), stranger == cursor, stranger != cursor], [True, False, True])
        # Both stand at the same answer, but with other anchors.
        other.to((1, 2, 0))
        self.assertEqual([other.row, other == cursor], [cursor.row, False])
        cursor.to_end()
        other.to((9, 9, 9))
        self.assertEqual([other.row, cursor.row, other == cursor], [None, None, False])

    def test_every_value(self):
        cursor = some_cursor()
        for value in (*odd_values(), Live(FAR, tables=ROWS), Pages(FAR, ROWS), ANSWERS[0]):
            self.assertIs(cursor == value, False)
            self.assertIs(cursor != value, True)


class Compared(Case):
    """Every result, compared with the sorted list of all answers and the anchor."""

    def check(self, query, live, cursor, anchor):
        rows = list(answers(query, live.tables))
        behind = [row for row in rows if not stands_before(query, row, anchor)] if anchor is not None else []
        self.assertEqual(place(cursor), [anchor, behind[0] if behind else None, len(rows) - len(behind)])
        self.assertEqual(str(cursor), f"cursor at {len(rows) - len(behind)} of {len(rows)}")
        return rows, len(rows) - len(behind)

    def test_random_calls(self):
        chance, many = random.Random(130), 0
        for query, tables, _ in good_cases(120, seed=130, most_orders=1):
            live = Live(query, tables=tables)
            cursor = Cursor(live)
            anchor = next(iter(answers(query, tables)), None)
            for _ in range(25):
                rows, here = self.check(query, live, cursor, anchor)
                word = chance.choice(("change", "change", "undo", "onward", "back", "at", "to", "end", "take", "rest"))
                if word == "change":
                    live.change(random_edits(chance, query, 2))
                elif word == "undo" and live.steps:
                    live.undo()
                elif word == "onward":
                    anchor = next(iter(rows[here + 1:]), None)
                    self.assertEqual(cursor.onward(), anchor)
                elif word == "back":
                    self.assertEqual(cursor.back(), rows[here - 1] if here else None)
                    anchor = rows[here - 1] if here else anchor
                elif word == "at":
                    there = chance.randint(0, len(rows))
                    anchor = next(iter(rows[there:]), None)
                    self.assertEqual(cursor.at(there), anchor)
                elif word == "to":
                    anchor = tuple(chance.randint(0, 2) for _ in query.shown)
                    found = cursor.to(anchor)
                    self.assertEqual(found, cursor.row)
                elif word == "end" and chance.random() < 0.3:
                    anchor = None
                    self.assertIsNone(cursor.to_end())
                elif word == "take":
                    size = chance.randint(1, 3)
                    self.assertEqual(cursor.take(size=size), tuple(rows[here:here + size]))
                    anchor = next(iter(rows[here + size:]), None)
                elif word == "rest":
                    found = next(cursor.rest(), None)
                    self.assertEqual(found, next(iter(rows[here:]), None))
                    anchor = next(iter(rows[here + 1:]), None) if here < len(rows) else anchor
                many += 1
        self.assertGreater(many, 1500)


class States(Case):
    def test_properties_are_not_assigned(self):
        cursor = some_cursor()
        for name in ("anchor", "row", "position"):
            with self.assertRaises(AttributeError):
                setattr(cursor, name, None)

    def test_no_iteration(self):
        for call in (iter, list, tuple):
            self.fails(TypeError, call, some_cursor())

    def test_two_cursors(self):
        live, cursor = both()
        other = Cursor(live)
        other.onward()
        self.assertEqual([cursor.position, other.position], [0, 1])

    def test_reading_changes_nothing(self):
        live, cursor = both(2)
        live.drop("s", (2, 6))
        for _ in range(2):
            self.assertEqual([place(cursor), str(cursor)], [[(1, 2, 6), (2, 2, 5), 2], "cursor at 2 of 3"])


class Errors(Case):
    def test_no_live_object(self):
        for live in (*odd_values(), Pages(FAR, ROWS), some_cursor(), Live):
            self.fails(InvalidOperation, Cursor, live)

    def unchanged(self, error, cursor, method, *passed, **named):
        before = place(cursor)
        raised = self.fails(error, method, *passed, **named)
        self.assertEqual(place(cursor), before)
        return raised

    def test_wrong_positions(self):
        cursor = some_cursor(2)
        for position in (6, -1, BIG, *odd_except(lambda one: is_whole(one) and 0 <= one <= 5)):
            self.assertIs(self.unchanged(InvalidNumber, cursor, cursor.at, position).value, position)
        empty = Cursor(Live(FAR))
        self.keeps(InvalidNumber, "value", 1, empty.at, 1)

    def test_wrong_rows(self):
        cursor = some_cursor(2)
        for row in ((1, 2), (1, 2, 3, 4), (1, 2, True), [1, 2, 3], *odd_values()):
            self.unchanged(InvalidRow, cursor, cursor.to, row)

    def test_wrong_sizes(self):
        cursor = some_cursor(2)
        for size in (0, 1001, -1, BIG, *odd_except(lambda one: is_whole(one) and 1 <= one <= 1000)):
            self.assertIs(self.unchanged(InvalidNumber, cursor, cursor.take, size=size).value, size)


if __name__ == "__main__":
    unittest.main()
