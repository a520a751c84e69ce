"""Live tables: [0.2], [0.4], [0.5], [0.14], [0.17], [11.1], [11.2], [11.3]. Trials are tested in test_trials."""

import itertools
import random
import unittest

from pagewise.errors import (InvalidEdit, InvalidNumber, InvalidQuery, InvalidRow, InvalidTables, NothingToUndo, TooMany,
                             UnknownName, Unsorted)
from pagewise.layers.forests import ends, parents
from pagewise.layers.layers import layers
from pagewise.live.live import Live
from pagewise.orders.good import good_orders
from pagewise.pages.pages import Pages
from pagewise.pages.sums import middle, sum_of
from pagewise.queries.queries import Query
from pagewise.shapes.witnesses import is_witness
from pagewise.tables.answers import answers
from tests.cases import (BIG, BRIDGE, FAR, LETTERS, RING, ROWS, SHELL, TRIO, Case, good_cases, is_whole, odd_except,
                         odd_values, random_queries, random_tables, wide_query, wide_tables)

ONE = Query(("x",), r=("x",))
FULL = {"r": tuple((number,) for number in range(1000))}
NO_EDITS = (("put", "r"), ("put", "r", (1, 2), None), ["put", "r", (1, 2)], ("puts", "r", (1, 2)), ("put", "t", (1, 2)),
            ("put", "r", (1,)), ("drop", "r", (1, True)), ("put", "r", [1, 2]), ("put", None, (1, 2)), (None, "r", (1, 2)),
            ("put", ["r"], (1, 2)), ("table", "r", 2), (True, "r", (1, 2)), (["put"], "r", (1, 2)))


def state(live):
    return [live.tables, live.total, live.steps, live.log, str(live)]


def random_edits(chance, query, many):
    """Edits with few values, so that some of them change nothing."""
    return tuple((chance.choice(("put", "drop")), name, tuple(chance.randint(0, 2) for _ in query.atom(name)))
                 for name in chance.choices(list(query.atoms), k=many))


def changed(tables, edits):
    """The tables behind the edits, and those edits that changed something."""
    rows, done = {name: set(own) for name, own in tables.items()}, []
    for edit in edits:
        word, name, row = edit
        if (row in rows[name]) != (word == "put"):
            (rows[name].add if word == "put" else rows[name].remove)(row)
            done.append(edit)
    return {name: tuple(sorted(own)) for name, own in rows.items()}, tuple(done)


class Ordinary(Case):
    def test_without_tables(self):
        for live in (Live(FAR), Live(FAR, tables=None), Live(FAR, tables={"r": (), "s": ()})):
            self.assertEqual(state(live), [{"r": (), "s": ()}, 0, 0, (), "live pages of 0 answers, 0 steps"])
            self.assertEqual(live.query, FAR)

    def test_puts_and_drops(self):
        live = Live(FAR, tables=ROWS)
        self.assertIs(live.put("s", (2, 4)), True)
        self.assertEqual([live.total, live[1], live.tables["s"]], [7, (1, 2, 4), ((1, 5), (2, 4), (2, 5), (2, 6))])
        self.assertIs(live.drop("r", (1, 1)), True)
        self.assertEqual([live.total, live[0], live.steps], [6, (1, 2, 4), 2])
        self.assertEqual(live.log, ((("put", "s", (2, 4)),), (("drop", "r", (1, 1)),)))
        self.assertEqual([(1, 2, 4) in live, (1, 1, 5) in live, live.position_of((2, 0, 0))], [True, False, 3])
        self.assertEqual(str(live), "live pages of 6 answers, 2 steps")

    def test_what_changes_nothing_is_no_step(self):
        live = Live(FAR, tables=ROWS)
        self.assertIs(live.put("r", (1, 1)), False)
        self.assertIs(live.drop("r", (1, 3)), False)
        self.assertEqual([live.change((("put", "r", (1, 1)), ("drop", "s", (9, 9)))), live.change(()), live.steps],
                         [0, 0, 0])
        live.put("s", (9, 9))
        live.undo()
        self.assertEqual([live.put("r", (1, 1)), live.change(()), live.drop("s", (9, 9)), live.redo()],
                         [False, 0, False, 1])

    def test_changes(self):
        live = Live(FAR, tables=ROWS)
        edits = (("put", "r", (3, 3)), ("put", "r", (3, 3)), ("drop", "r", (3, 3)), ("drop", "r", (3, 3)),
                 ("put", "s", (3, 1)), ("drop", "s", (1, 5)), ("put", "r", (1, 1)))
        self.assertEqual(live.change(edits), 4)
        self.assertEqual(live.log, ((("put", "r", (3, 3)), ("drop", "r", (3, 3)), ("put", "s", (3, 1)),
                                     ("drop", "s", (1, 5))),))
        self.assertEqual(live.tables, {"r": ROWS["r"], "s": ((2, 5), (2, 6), (3, 1))})
        self.assertEqual([live.total, live.undo(), live.tables, live.total], [4, 0, ROWS, 5])
        # Both edits change something when they are made, so they are a step that leads back.
        self.assertEqual([live.change((("put", "r", (7, 7)), ("drop", "r", (7, 7)))), live.steps, live.tables],
                         [2, 1, ROWS])

    def test_undo_and_redo(self):
        live = Live(FAR, tables=ROWS)
        for number in range(4):
            live.put("s", (2, number))
        states = [state(live)]
        self.assertEqual([live.undo(), live.undo(many=2), live.undo(many=0), live.steps], [3, 1, 1, 1])
        self.assertEqual(live.log, ((("put", "s", (2, 0)),),))
        self.assertEqual([live.redo(many=0), live.redo(), live.redo(many=2)], [1, 2, 4])
        self.assertEqual(state(live), states[0])
        self.assertEqual([live.undo(many=4), live.tables, live.redo(many=4)], [0, ROWS, 4])
        self.assertEqual(state(live), states[0])

    def test_a_new_step_forgets_the_undone_ones(self):
        live = Live(FAR, tables=ROWS)
        live.put("s", (2, 1))
        live.put("s", (2, 2))
        live.undo()
        live.put("s", (2, 3))
        self.keeps(NothingToUndo, "many", 1, live.redo)
        self.assertEqual([live.redo(many=0), live.undo(), live.redo()], [2, 1, 2])
        self.assertEqual(live.log, ((("put", "s", (2, 1)),), (("put", "s", (2, 3)),)))

    def test_pages(self):
        live = Live(FAR, tables=ROWS)
        pages = live.pages()
        self.assertTrue(pages == Pages(FAR, ROWS))
        live.drop("r", (2, 2))
        self.assertEqual([pages.total, pages.tables, live.pages().total], [5, ROWS, 3])
        self.assertEqual([live.pages().page(0), live.pages().query], [((1, 1, 5), (1, 2, 5), (1, 2, 6)), FAR])
        self.assertEqual(live.pages().order, ("x", "z", "y"))

    def test_no_shown_columns(self):
        live = Live(FAR.with_shown())
        self.assertEqual([live.put("r", (1, 1)), live.total, live.put("s", (1, 1)), live.total, live[0], () in live],
                         [True, 0, True, 1, (), True])
        self.assertEqual([live.drop("r", (1, 1)), live.total, () in live, live.position_of(())], [True, 0, False, 0])

    def test_sorted_down(self):
        live = Live(~FAR, tables=ROWS)
        self.assertEqual([live[0], live.put("s", (2, 9)), live[0], live.position_of((2, 2, 6))],
                         [(2, 2, 6), True, (2, 2, 9), 1])

    def test_a_thousand_rows(self):
        live = Live(ONE, tables=FULL)
        self.assertEqual([live.put("r", (999,)), live.total], [False, 1000])
        self.keeps(TooMany, "limit", 1000, live.put, "r", (1000,))
        self.keeps(TooMany, "limit", 1000, live.change, (("drop", "r", (0,)), ("put", "r", (0,)), ("put", "r", (-1,))))
        self.keeps(TooMany, "limit", 1000, live.change, (("put", "r", (-1,)), ("drop", "r", (0,))))
        self.assertEqual([live.tables, live.steps], [FULL, 0])
        self.assertEqual([live.change((("drop", "r", (0,)), ("put", "r", (-1,)))), live[0], live.total], [2, (-1,), 1000])

    def test_from_no_row_to_a_thousand(self):
        live = Live(ONE)
        self.assertEqual(live.change(tuple(("put", "r", row) for row in FULL["r"])), 1000)
        self.keeps(TooMany, "limit", 1000, live.put, "r", (1000,))
        self.assertEqual([live.tables, live.total, live.undo(), live.total], [FULL, 1000, 0, 0])

    def test_great_tables(self):
        live = Live(wide_query(), tables=wide_tables())
        self.assertEqual(live.drop("tj", (999,)), True)
        self.assertEqual([live.total, live.undo(), live.total], [999 * 10 ** 27, 0, 10 ** 30])
        self.keeps(TooMany, "limit", 1000, live.put, "ta", (1000,))
        self.assertEqual(live.change((("drop", "ta", (0,)), ("put", "ta", (1000,)))), 2)
        self.assertEqual([live.total, live[0], live[10 ** 30 - 1]], [10 ** 30, (1,) + (0,) * 9, (1000,) + (999,) * 9])

    def test_many_steps_on_a_long_chain(self):
        chain = Query.of(LETTERS[:10], {"t" + one: (one, two) for one, two in zip(LETTERS, LETTERS[1:10])})
        live = Live(chain, tables={name: tuple(itertools.product(range(31), repeat=2)) for name in chain.atoms})
        for number in range(20):
            self.assertTrue(live.drop("te", (number, 0)))
        self.assertEqual(live.total, 31 ** 10 - 20 * 31 ** 8)
        self.assertEqual([live.undo(many=20), live.total, live.redo(many=20), live.total],
                         [0, 31 ** 10, 20, 31 ** 10 - 20 * 31 ** 8])


class Compared(Case):
    """Live tables behind every edit, compared with the sorted list of all answers of the present tables."""

    def check(self, live, tables):
        rows = list(answers(live.query, tables))
        self.assertEqual([live.tables, list(live.tables), live.total], [tables, sorted(tables), len(rows)])
        self.assertEqual([live[at] for at in range(len(rows))], rows)
        self.assertEqual([live.position_of(row) for row in rows], list(range(len(rows))))
        self.assertTrue(all(row in live for row in rows))
        self.assertEqual(list(live.pages().walk()), rows)
        self.assertEqual(middle(live.pages()), rows[(len(rows) - 1) // 2] if rows else None)
        for at, column in enumerate(live.query.shown):
            self.assertEqual(sum_of(live.pages(), column), sum(row[at] for row in rows))
        for values in (row[:1] for row in rows):
            self.assertEqual(live.pages().starts(values), len([row for row in rows if row[:1] == values]))
        self.keeps(InvalidNumber, "value", len(rows), live.__getitem__, len(rows))

    def test_random_edits(self):
        chance, many = random.Random(110), 0
        for query, tables, _ in good_cases(120, seed=110, most_orders=1):
            live, done, undone = Live(query, tables=tables), [], []
            for _ in range(12):
                edits = random_edits(chance, query, chance.randint(0, 4))
                word = chance.choice(("change", "change", "one", "undo", "redo"))
                if word == "change":
                    behind, step = changed(live.tables, edits)
                    self.assertEqual(live.change(edits), len(step))
                elif word == "one" and edits:
                    behind, step = changed(live.tables, edits[:1])
                    self.assertIs((live.put if edits[0][0] == "put" else live.drop)(*edits[0][1:]), step != ())
                else:
                    behind, step = live.tables, ()
                if step:
                    done.append((step, tables))
                    tables, undone = behind, []
                if word == "undo" and done:
                    undone.append((done[-1][0], tables))
                    tables = done.pop()[1]
                    self.assertEqual(live.undo(), len(done))
                if word == "redo" and undone:
                    done.append((undone[-1][0], tables))
                    tables = undone.pop()[1]
                    self.assertEqual(live.redo(), len(done))
                self.check(live, tables)
                self.assertEqual([live.steps, live.log], [len(done), tuple(step for step, _ in done)])
                self.keeps(NothingToUndo, "many", len(undone) + 1, live.redo, many=len(undone) + 1)
                many += 1
        self.assertGreater(many, 700)

    def test_all_steps_undone_and_done_again(self):
        chance = random.Random(111)
        for query, tables, _ in good_cases(50, seed=111, most_orders=1):
            live = Live(query, tables=tables)
            states = [tables]
            for _ in range(6):
                if live.change(random_edits(chance, query, 3)):
                    states.append(live.tables)
            for at in range(len(states)):
                for other in range(len(states)):
                    here = live.steps
                    (live.undo if other <= here else live.redo)(many=abs(other - here))
                    self.check(live, states[other])


class Layers(Case):
    def test_what_changes_in_layers(self):
        # At most the last column of the atom, its parent, the parent of this one, and so on.
        chance, found = random.Random(112), 0
        for query in random_queries(150, seed=112):
            tables = random_tables(chance, query, most_rows=8, values=2)
            for order in itertools.islice(good_orders(query), 3):
                above = parents(query, order)
                for edit in random_edits(chance, query, 4):
                    behind, step = changed(tables, (edit,))
                    column = next(one for one, names in ends(query, order).items() if edit[1] in names)
                    path = [column]
                    while above[path[-1]] is not None:
                        path.append(above[path[-1]])
                    self.assertLessEqual(set(query.atom(edit[1])), set(path))
                    first, second = layers(query, tables, order), layers(query, behind, order)
                    differing = [one for one in query.columns if first[one] != second[one]]
                    self.assertLessEqual(set(differing), set(path))
                    found += len(differing)
        self.assertGreater(found, 100)


class States(Case):
    def test_nothing_gives_access(self):
        tables = dict(ROWS)
        live = Live(FAR, tables=tables)
        tables["r"] = ()
        live.tables["s"] = ()
        live.tables.clear()
        self.assertEqual([live.tables, live.total], [ROWS, 5])
        for name in ("query", "tables", "total", "steps", "log"):
            with self.assertRaises(AttributeError):
                setattr(live, name, None)

    def test_two_live_objects(self):
        first, second = Live(FAR, tables=ROWS), Live(FAR, tables=ROWS)
        first.put("s", (2, 4))
        self.assertEqual([first.total, second.total, second.steps], [7, 5, 0])

    def test_no_iteration(self):
        for call in (iter, list, tuple, sorted):
            self.fails(TypeError, call, Live(FAR, tables=ROWS))

    def test_comparing(self):
        live = Live(FAR, tables=ROWS)
        other = Live(FAR)
        self.assertIs(live == other, False)
        other.change(tuple(("put", name, row) for name, rows in ROWS.items() for row in rows))
        self.assertEqual([live == other, live != other, live.steps == other.steps], [True, False, False])
        self.assertIs(live == Live(~FAR, tables=ROWS), False)
        for value in (*odd_values(), Pages(FAR, ROWS), live.pages()):
            self.assertIs(live == value, False)
            self.assertIs(live != value, True)
        for value in (*odd_values(), (1, 1), [1, 1, 5], (True, 1, 5), (1, 1, 6)):
            self.assertIs(value in live, False)


class Errors(Case):
    def test_wrong_query(self):
        for query in odd_except(lambda one: isinstance(one, Query)):
            self.fails(InvalidQuery, Live, query)
            for tables in (ROWS, None, 1):
                self.fails(InvalidQuery, Live, query, tables=tables)

    def test_wrong_tables(self):
        for tables in odd_except(lambda one: one is None or one is ROWS):
            for query in (FAR, TRIO):
                self.fails(InvalidTables, Live, query, tables=tables)
        self.fails(InvalidTables, Live, ONE, tables={"r": (*FULL["r"], (1000,))})

    def test_no_good_order(self):
        for query in (TRIO, BRIDGE, RING, SHELL):
            tables = {name: () for name in query.atoms}
            for named in ({}, {"tables": None}, {"tables": tables}):
                self.assertTrue(is_witness(query, self.fails(Unsorted, Live, query, **named).witness))

    def unchanged(self, error, live, method, *passed, **named):
        """The call raises the error and changes nothing."""
        before = [*state(live), live.redo(many=0)]
        raised = self.fails(error, method, *passed, **named)
        self.assertEqual([*state(live), live.redo(many=0)], before)
        return raised

    def some_live(self):
        live = Live(FAR, tables=ROWS)
        live.put("s", (2, 4))
        live.put("s", (2, 3))
        live.undo()
        return live

    def test_wrong_atoms(self):
        live = self.some_live()
        for name in odd_except(lambda one: one == "r"):
            for row in ((1, 2), None):
                for method in (live.put, live.drop):
                    error = self.unchanged(UnknownName, live, method, name, row)
                    self.assertIs(error.name, name)
        self.assertEqual([live.redo(), live.total], [2, 9])

    def test_wrong_rows(self):
        live = self.some_live()
        for row in ((1,), (1, 2, 3), [1, 2], (1, True), ("1", 2),
                    *odd_except(lambda one: isinstance(one, tuple) and len(one) == 2 and all(map(is_whole, one)))):
            for method in (live.put, live.drop):
                self.unchanged(InvalidRow, live, method, "r", row)
        full = Live(ONE, tables=FULL)
        self.unchanged(InvalidRow, full, full.put, "r", (1, 2))
        self.assertEqual(self.unchanged(TooMany, full, full.put, "r", (BIG,)).limit, 1000)

    def test_wrong_edits(self):
        live = self.some_live()
        good = ("put", "r", (9, 9))
        for edits in odd_except(lambda one: one == () and isinstance(one, tuple)):
            self.unchanged(InvalidEdit, live, live.change, edits)
        for edit in (*NO_EDITS, *odd_values()):
            for edits in ((edit,), (good, edit), (edit, good)):
                self.unchanged(InvalidEdit, live, live.change, edits)
        for edits in ([good], good, {good: 1}):
            self.unchanged(InvalidEdit, live, live.change, edits)
        self.assertEqual([live.redo(), live.total], [2, 9])
        full = Live(ONE, tables=FULL)
        self.unchanged(InvalidEdit, full, full.change, (("put", "r", (-1,)), ("put", "r", None)))

    def test_wrong_numbers_of_steps(self):
        live = self.some_live()
        for many in (-1, -BIG, *odd_except(lambda one: is_whole(one) and one >= 0)):
            for method in (live.undo, live.redo):
                self.assertIs(self.unchanged(InvalidNumber, live, method, many=many).value, many)
        for many in (2, 3, BIG):
            for method in (live.undo, live.redo):
                self.assertIs(self.unchanged(NothingToUndo, live, method, many=many).many, many)
        self.assertEqual([live.redo(), live.undo(many=2), live.redo(many=2)], [2, 0, 2])
        for method in (Live(FAR).undo, Live(FAR).redo):
            self.keeps(NothingToUndo, "many", 1, method)

    def test_positions_and_rows(self):
        live = self.some_live()
        for position in (7, -1, *odd_except(lambda one: is_whole(one) and 0 <= one < 7)):
            self.keeps(InvalidNumber, "value", position, live.__getitem__, position)
        for row in ((1, 1), (1, 1, True), *odd_values()):
            self.fails(InvalidRow, live.position_of, row)


if __name__ == "__main__":
    unittest.main()
