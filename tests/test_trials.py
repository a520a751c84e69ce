"""Trials and attempts of live tables: [0.2], [0.4], [11.1], [11.2]."""

import random
import unittest

from pagewise.errors import InvalidEdit, InvalidOperation, NothingToUndo
from pagewise.live.live import Live
from pagewise.tables.answers import answers
from tests.cases import FAR, ROWS, Case, good_cases, odd_except
from tests.test_live import random_edits

PUT = ("put", "s", (2, 4))
OTHER = ("put", "s", (2, 3))


class Stop(Exception):
    """An error that no part of the package knows."""


def some_live():
    """Two steps can be undone and one can be done again."""
    live = Live(FAR, tables=ROWS)
    for number in (7, 8, 9):
        live.put("s", (2, number))
    live.undo()
    return live


def everything(live):
    """All that a live object tells, also of its undone steps."""
    found = [live.tables, live.total, list(live.pages().walk()), live.steps, live.log]
    undone = 0
    while True:
        try:
            live.redo()
        except NothingToUndo:
            break
        undone += 1
        found.append(live.tables)
    live.undo(many=undone)
    return found


class Trials(Case):
    def test_nothing_lasts(self):
        live = some_live()
        before = everything(live)
        with live.trial() as trial:
            self.assertIs(trial.live, live)
            self.assertEqual([live.put("s", (2, 1)), live.drop("r", (1, 1)), live.steps], [True, True, 4])
            self.assertEqual(live.undo(many=3), 1)
            live.change((PUT, ("drop", "s", (1, 5))))
        self.assertEqual(everything(live), before)

    def test_the_trial_is_what_is_called(self):
        live = some_live()
        trial = live.trial()
        with trial as same:
            self.assertIs(same, trial)
            live.put("r", (9, 9))
        self.assertEqual([live.tables["r"], trial.live is live], [ROWS["r"], True])

    def test_an_error_ends_it(self):
        live = some_live()
        before = everything(live)
        with self.assertRaises(Stop):
            with live.trial():
                live.put("r", (9, 9))
                live.undo(many=2)
                raise Stop()
        self.assertEqual(everything(live), before)
        with self.assertRaises(InvalidEdit):
            with live.trial():
                live.put("r", (9, 9))
                live.change(None)
        self.assertEqual(everything(live), before)

    def test_kept(self):
        live = some_live()
        with live.trial() as trial:
            live.put("s", (0, 1))
            live.drop("r", (2, 2))
            live.drop("r", (1, 1))
            live.put("r", (5, 5))
            live.put("r", (4, 4))
            self.assertEqual(trial.keep(), 5)
            self.assertEqual(live.steps, 7)
        step = (("drop", "r", (1, 1)), ("drop", "r", (2, 2)), ("put", "r", (4, 4)), ("put", "r", (5, 5)),
                ("put", "s", (0, 1)))
        self.assertEqual([live.steps, live.log[2]], [3, step])
        self.assertEqual(live.tables["r"], ((1, 2), (4, 4), (5, 5)))
        self.keeps(NothingToUndo, "many", 1, live.redo)
        self.assertEqual([live.undo(), live.tables["r"], live.redo(), live.total, live.undo(many=3), live.tables],
                         [2, ROWS["r"], 3, 4, 0, ROWS])

    def test_kept_and_then_changed(self):
        live = some_live()
        with live.trial() as trial:
            live.put("r", (5, 5))
            self.assertEqual(trial.keep(), 1)
            live.put("r", (6, 6))
        self.assertEqual([live.tables["r"], live.steps, live.log[-1]], [ROWS["r"] + ((5, 5),), 3,
                                                                     (("put", "r", (5, 5)),)])

    def test_kept_more_than_once(self):
        live = some_live()
        with live.trial() as trial:
            live.put("r", (5, 5))
            self.assertEqual([trial.keep(), trial.keep()], [1, 1])
            live.drop("r", (5, 5))
            live.put("r", (6, 6))
            live.put("r", (7, 7))
            self.assertEqual(trial.keep(), 2)
        self.assertEqual([live.tables["r"], live.log[-1]], [ROWS["r"] + ((6, 6), (7, 7)),
                                                            (("put", "r", (6, 6)), ("put", "r", (7, 7)))])

    def test_equal_tables_are_no_step(self):
        live = some_live()
        before = everything(live)
        with live.trial() as trial:
            live.put("r", (5, 5))
            trial.keep()
            live.undo()
            self.assertEqual(trial.keep(), 0)
            live.put("r", (6, 6))
        self.assertEqual(everything(live), before)
        with live.trial() as trial:
            self.assertEqual(trial.keep(), 0)
        self.assertEqual(everything(live), before)

    def test_undone_steps_kept(self):
        live = some_live()
        with live.trial() as trial:
            live.undo(many=2)
            self.assertEqual(trial.keep(), 2)
        self.assertEqual([live.tables, live.steps], [ROWS, 3])
        self.assertEqual(live.log, ((("put", "s", (2, 7)),), (("put", "s", (2, 8)),),
                                    (("drop", "s", (2, 7)), ("drop", "s", (2, 8)))))
        with live.trial() as trial:
            live.undo()
            live.redo()
            self.assertEqual(trial.keep(), 0)
        self.assertEqual([live.steps, live.undo()], [3, 2])

    def test_kept_and_ended_by_an_error(self):
        live = some_live()
        with self.assertRaises(Stop):
            with live.trial() as trial:
                live.put("r", (5, 5))
                trial.keep()
                live.put("r", (6, 6))
                raise Stop()
        self.assertEqual([live.tables["r"], live.steps], [ROWS["r"] + ((5, 5),), 3])

    def test_keep_outside_of_the_block(self):
        live = some_live()
        before = everything(live)
        trial = live.trial()
        self.fails(InvalidOperation, trial.keep)
        with trial:
            live.put("r", (5, 5))
            self.assertEqual(trial.keep(), 1)
        self.fails(InvalidOperation, trial.keep)
        live.undo()
        with live.trial():
            self.fails(InvalidOperation, trial.keep)
        self.assertEqual(everything(live)[:5], before[:5])

    def test_a_trial_used_again(self):
        live = some_live()
        trial = live.trial()
        for number in (5, 6):
            with trial:
                live.put("r", (number, number))
                trial.keep()
        with trial:
            live.put("r", (7, 7))
        self.assertEqual([live.tables["r"], live.steps], [ROWS["r"] + ((5, 5), (6, 6)), 4])

    def test_nested(self):
        live = some_live()
        before = everything(live)
        with live.trial():
            live.put("r", (5, 5))
            inside = everything(live)
            with live.trial():
                live.undo(many=3)
                live.put("r", (6, 6))
            self.assertEqual(everything(live), inside)
        self.assertEqual(everything(live), before)

    def test_nested_and_kept(self):
        live = some_live()
        with live.trial() as outer:
            live.put("r", (5, 5))
            with live.trial() as inner:
                live.put("r", (6, 6))
                self.assertEqual(inner.keep(), 1)
            self.assertEqual([live.steps, live.log[-1], live.tables["r"][-2:]],
                             [4, (("put", "r", (6, 6)),), ((5, 5), (6, 6))])
            self.fails(InvalidOperation, inner.keep)
            self.assertEqual(outer.keep(), 2)
        self.assertEqual([live.steps, live.log[-1]], [3, (("put", "r", (5, 5)), ("put", "r", (6, 6)))])

    def test_the_outer_one_kept_inside(self):
        live = some_live()
        with live.trial() as outer:
            with live.trial():
                live.put("r", (5, 5))
                self.assertEqual(outer.keep(), 1)
            self.assertEqual(live.tables["r"], ROWS["r"])
        self.assertEqual([live.tables["r"], live.steps], [ROWS["r"] + ((5, 5),), 3])

    def test_the_same_one_nested(self):
        live = some_live()
        trial = live.trial()
        with trial:
            live.put("r", (5, 5))
            with trial:
                live.put("r", (6, 6))
                self.assertEqual(trial.keep(), 1)
                live.put("r", (7, 7))
            self.assertEqual(live.tables["r"], ROWS["r"] + ((5, 5), (6, 6)))
        self.assertEqual([live.tables["r"], live.steps], [ROWS["r"], 2])


class Attempts(Case):
    def test_nothing_lasts(self):
        live = some_live()
        before = everything(live)
        self.assertEqual(live.attempt(lambda book: (book is live, book.put("r", (5, 5)), book.steps)), (True, True, 3))
        self.assertEqual(everything(live), before)
        self.assertIsNone(live.attempt(lambda book: None))

    def test_kept(self):
        live = some_live()
        self.assertEqual(live.attempt(lambda book: book.change((PUT, OTHER)), keep=True), 2)
        self.assertEqual([live.steps, live.log[-1]], [3, (OTHER, PUT)])
        self.keeps(NothingToUndo, "many", 1, live.redo)

    def test_kept_without_a_change(self):
        live = some_live()
        before = everything(live)
        self.assertEqual(live.attempt(lambda book: [book.put("r", (5, 5)), book.undo()], keep=True), [True, 2])
        self.assertEqual(everything(live), before)

    def test_only_true_keeps(self):
        live = some_live()
        before = everything(live)
        for keep in odd_except(lambda one: one is True):
            self.assertIs(live.attempt(lambda book: book.put("r", (5, 5)), keep=keep), True)
            self.assertEqual(everything(live), before)

    def test_errors_go_on(self):
        live = some_live()
        before = everything(live)

        def broken(book):
            book.put("r", (5, 5))
            raise Stop("told")

        for named in ({}, {"keep": True}, {"keep": False}):
            with self.assertRaises(Stop) as caught:
                live.attempt(broken, **named)
            self.assertEqual([str(caught.exception), everything(live)], ["told", before])

    def test_nested(self):
        live = some_live()

        def action(book):
            book.put("r", (5, 5))
            inner = book.attempt(lambda same: same.put("r", (6, 6)), keep=True)
            return inner, book.attempt(lambda same: same.put("r", (7, 7))), book.tables["r"]

        rows = ROWS["r"] + ((5, 5), (6, 6))
        self.assertEqual(live.attempt(action), (True, True, rows))
        self.assertEqual([live.tables["r"], live.steps], [ROWS["r"], 2])
        self.assertEqual(live.attempt(action, keep=True), (True, True, rows))
        self.assertEqual([live.tables["r"], live.steps], [rows, 3])


class Compared(Case):
    def test_random_blocks(self):
        chance, kept = random.Random(120), 0
        for query, tables, _ in good_cases(80, seed=120, most_orders=1):
            live = Live(query, tables=tables)
            live.change(random_edits(chance, query, 3))
            live.change(random_edits(chance, query, 3))
            live.undo(many=chance.randint(0, min(1, live.steps)))
            before, last, steps = everything(live), None, live.log
            with live.trial() as trial:
                for _ in range(5):
                    live.change(random_edits(chance, query, 2))
                    live.undo(many=chance.randint(0, min(1, live.steps)))
                    if chance.random() < 0.2:
                        last = live.tables
                        many = trial.keep()
            if last in (None, before[0]):
                self.assertEqual(everything(live), before)
                continue
            step = [(word, name, row) for name in query.atoms for word, one, other in
                    (("drop", before[0], last), ("put", last, before[0]))
                    for row in one[name] if row not in other[name]]
            self.assertEqual([live.tables, live.log, many], [last, (*steps, tuple(step)), len(step)])
            self.assertEqual([live.total, list(live.pages().walk())],
                             [len(list(answers(query, last))), list(answers(query, last))])
            self.assertEqual([live.undo(), live.tables], [len(steps), before[0]])
            kept += 1
        self.assertGreater(kept, 20)


if __name__ == "__main__":
    unittest.main()
