"""What holds through all stages together, and what is not true, with a query that shows it: [0.14], [0.15]."""

import random
import unittest

from pagewise.desk.desk import Desk
from pagewise.keys.keys import KeyedPages, grown, grown_tables, shown_part
from pagewise.layers.layers import total
from pagewise.live.cursors import Cursor
from pagewise.live.live import Live
from pagewise.orders.beginnings import beginning_paper, completed, is_beginning_paper, sort_orders
from pagewise.orders.good import good_order, is_good, is_order_paper, order_paper
from pagewise.pages.pages import Pages
from pagewise.pages.sums import groups, middle, sum_of, tally
from pagewise.problems.closed import closed_row, closed_tables, full_choice
from pagewise.problems.products import product, product_by
from pagewise.queries.queries import Query
from pagewise.shapes.rings import rings, shells
from pagewise.shapes.witnesses import is_witness, witness, witnesses
from pagewise.tables.answers import answers, count_answers, solutions
from pagewise.tables.reduced import agree, clashing
from pagewise.text.formats import format_query, format_row
from pagewise.text.selects import Select
from pagewise.text.shell import Shell
from tests.cases import BRIDGE, FAR, RING, ROWS, SHELL, TRIO, random_queries, random_tables
from tests.test_closed import random_face
from tests.test_keys import all_keys, holds_by_words
from tests.test_products import honest, random_relation
from tests.test_selects import list_by_words, random_equalities

NAMES = ("p", "q", "r", "s")


def random_view(chance, widths):
    """A query over tables with these widths."""
    atoms = {name: tuple(chance.sample("abcd", widths[name]))
                         for name in chance.sample(sorted(widths), chance.randint(1, 4))}
    used = sorted({column for own in atoms.values() for column in own})
    shown = tuple(chance.sample(used, chance.randint(0, len(used))))
    return Query.of(shown, atoms, down=shown[::2])


class Together(unittest.TestCase):
    """All stages on the same queries and tables."""

    def check_pages(self, pages, rows):
        """Pages, or what is like pages, of the listed rows."""
        self.assertEqual(pages.total, len(rows))
        for at, row in enumerate(rows):
            self.assertEqual([pages[at], pages.position_of(row), pages.ahead_of(row), pages.after(row),
                              pages.span(row)],
                             [row, at, rows[at - 1] if at else None, (*rows, None)[at + 1], (at, at + 1)])

    def check_sums(self, query, pages, rows):
        self.assertEqual(middle(pages), rows[(len(rows) - 1) // 2] if rows else None)
        for at, column in enumerate(query.shown):
            self.assertEqual(sum_of(pages, column), sum(row[at] for row in rows))
            self.assertEqual(sum(tally(pages, column).values()), len(rows))
        if query.shown:
            self.assertEqual(sum(number for _, number in groups(pages)), len(rows))

    def check_query(self, query, tables):
        """What is said of a query and its tables, with and without a good order; return whether there is one."""
        rows = list(answers(query, tables))
        found = order_paper(query)
        self.assertTrue(is_order_paper(query, found))
        self.assertEqual([found[0] == "order", witness(query) is None], [good_order(query) is not None] * 2)
        if found[0] == "order":
            pages = Pages(query, tables, order=found[1])
            self.check_pages(pages, rows)
            self.check_sums(query, pages, rows)
            live = Live(query, tables=tables)
            cursor = Cursor(live)
            self.assertEqual([total(query, tables), live.pages() == pages,
                             list(cursor.rest())], [len(rows), True, rows])
        sort = completed(query, ())
        self.assertEqual(sort is None, any(word != "trio" for word, _ in witnesses(query)))
        self.assertTrue(is_beginning_paper(query, (), beginning_paper(query, ())))
        if sort is not None:
            self.assertEqual(total(query.with_shown_of(sort), tables), len(rows))
        return found[0] == "order"

    def check_keys(self, chance, query, tables):
        keys = [key for key in all_keys(query) if holds_by_words(query, tables, key)]
        keys = tuple(chance.sample(keys, min(len(keys), 2)))
        larger, rows = grown(query, keys), list(answers(query, tables))
        behind = grown_tables(query, tables, keys)
        self.assertEqual([shown_part(query, row, keys) for row in answers(larger, behind)], rows)
        if self.check_query(larger, behind):
            self.check_pages(KeyedPages(query, tables, keys), rows)
            return good_order(query) is None
        return False

    def check_select(self, chance, shell, query, tables):
        fixed, same = random_equalities(chance, query)
        # Either integers or columns, so that they do not contradict each other.
        fixed = {} if same else fixed
        equalities = [f"{column} = {worth}" for column, worth in (*fixed.items(), *same)]
        select, rows = Select(query, fixed=fixed, same=same), list_by_words(query, tables, fixed, same)
        self.check_query(select.query, select.tables_for(tables))
        if good_order(select.query) is not None:
            text = f"select {format_query(query)}" + (" where " + " and ".join(equalities) if equalities else "")
            self.assertEqual([Select.read(text), select.total_for(tables)], [select, len(rows)])
            self.assertEqual(shell.run(text), "; ".join(format_row(row) for row in rows) or "-")

    def check_desk(self, chance, desk, seen):
        shell = Shell(desk)
        for name, query in desk.views.items():
            tables = {atom: desk.tables[atom] for atom in query.atoms}
            is_sorted = self.check_query(query, tables)
            seen["sorted" if is_sorted else "unsorted"] += 1
            if is_sorted:
                self.assertEqual(desk.pages(name), Pages(query, tables))
                self.assertEqual(shell.run(f"count {name}"), str(count_answers(query, tables)))
            if completed(query, ()) is not None:
                self.assertEqual(desk.total_of(name), count_answers(query, tables))
            seen["keys"] += self.check_keys(chance, query, tables)
            self.check_select(chance, shell, query, tables)

    def test_a_desk_after_edits_undone_or_not(self):
        chance, seen = random.Random(2000), {"sorted": 0, "unsorted": 0, "keys": 0}
        for _ in range(25):
            desk = Desk()
            widths = {name: chance.choice((1, 2, 2, 2, 3)) for name in NAMES}
            desk.do(*[("table", name, width) for name, width in widths.items()])
            for _ in range(12):
                rows = [(name, tuple(chance.randint(0, 2) for _ in range(widths[name])))
                         for name in chance.choices(NAMES, k=5)]
                desk.do(*[(chance.choice(("put", "put", "drop")), name, row) for name, row in rows],
                        ("view", chance.choice("vw"), random_view(chance, widths)))
                many = chance.randint(0, min(2, desk.steps - 1))
                desk.undo(many=many)
                desk.redo(many=chance.randint(0, many))
                self.check_desk(chance, desk, seen)
        self.assertGreater(min(seen.values()), 20, seen)

    def test_either_a_good_order_or_witnesses_whose_problems_are_translated(self):
        chance, seen = random.Random(2001), {}
        for query in random_queries(500, seed=2002, most_columns=5, most_atoms=6):
            self.check_query(query, random_tables(chance, query, most_rows=4))
            for pair in list(witnesses(query))[:3]:
                self.assertTrue(is_witness(query, pair))
                word, columns = pair
                seen[word] = seen.get(word, 0) + 1
                if word in ("trio", "bridge"):
                    first, second = random_relation(chance, values=3), random_relation(chance, values=3)
                    self.assertEqual(product_by(query, pair, first, second, honest), product(first, second))
                    continue
                size = 2 if word == "ring" else len(columns) - 1
                inputs = tuple(random_face(chance, size, values=2) for _ in columns)
                tables = closed_tables(query, pair, inputs)
                found = [tuple(one[column] for column in columns) for one in solutions(query, tables)]
                solve = closed_row if word == "ring" else full_choice
                self.assertEqual(min(found, default=None), solve(inputs))
        self.assertEqual(sorted(seen), ["bridge", "ring", "shell", "trio"])

    def test_a_view_that_only_a_key_or_an_equality_sorts(self):
        desk = Desk()
        desk.do(("table", "r", 2), ("table", "s", 2), ("view", "trio", TRIO), ("view", "pair", BRIDGE))
        for number in range(5):
            desk.do(("put", "r", (number, number % 2)), ("put", "s", (number % 2, number)))
        for name in ("trio", "pair"):
            query = desk.views[name]
            tables, rows = desk.tables, list(answers(query, desk.tables))
            self.assertIsNone(good_order(query))
            self.check_pages(KeyedPages(query, tables, (("r", ("x",), "z"),)), rows)
            self.assertEqual(list(Select(query, fixed={"z": 1})(tables)), list_by_words(query, tables, {"z": 1}, ()))
            self.assertEqual(list(Select(query, same=(("y", "x"),), fixed={"z": 0})(tables)),
                             list_by_words(query, tables, {"z": 0}, (("x", "y"),)))
        self.assertEqual(desk.total_of("trio"), count_answers(TRIO, desk.tables))


class Guarantee(unittest.TestCase):
    def test_no_ring_and_no_good_order(self):
        self.assertEqual([list(rings(SHELL)), good_order(SHELL)], [[], None])

    def test_another_sort_order(self):
        self.assertEqual(sorted(TRIO.shown), sorted(FAR.shown))
        self.assertEqual([good_order(FAR), good_order(TRIO)], [("x", "z", "y"), None])

    def test_the_reverse_of_a_sort_order(self):
        good = list(sort_orders(TRIO))
        self.assertIn(("z", "x", "y"), good)
        self.assertNotIn(("y", "x", "z"), good)

    def test_the_columns_of_a_beginning_in_another_order(self):
        longer = TRIO.with_atom("t", "w", "z").with_shown("x", "y", "z", "w")
        for query in (TRIO, longer):
            self.assertIsNotNone(completed(query, ("x", "z", "y")))
            self.assertIsNone(completed(query, ("x", "y", "z")))

    def test_hiding_a_column(self):
        self.assertEqual([FAR.with_shown("x", "y"), good_order(BRIDGE)], [BRIDGE, None])
        self.assertIsNotNone(good_order(FAR))

    def test_showing_one_more_column(self):
        self.assertIsNotNone(good_order(FAR.with_shown("x")))
        self.assertIsNone(good_order(FAR.with_shown("x", "y")))

    def test_leaving_out_an_atom(self):
        covered = SHELL.with_atom("s", "a", "b", "c")
        self.assertTrue(is_good(covered, ("a", "b", "c")))
        self.assertEqual([covered.without_atom("s"), good_order(SHELL)], [SHELL, None])

    def test_two_queries_together(self):
        first, second = SHELL.without_atom("r"), Query((), r=("a", "c"))
        self.assertIsNotNone(good_order(first))
        self.assertIsNotNone(good_order(second))
        self.assertEqual([first | second, good_order(first | second)], [SHELL, None])

    def test_answers_and_solutions(self):
        self.assertEqual([total(FAR.with_shown("x", "z"), ROWS), len(list(solutions(FAR, ROWS)))], [3, 5])

    def test_tables_that_agree_by_twos(self):
        like, unlike = ((0, 0), (1, 1)), ((0, 1), (1, 0))
        ring = {"p": like, "q": like, "r": like, "s": unlike}
        shell = {"p": like, "q": like, "r": unlike}
        for query, tables in ((RING, ring), (SHELL, shell), (RING, clashing(RING, next(witnesses(RING)))),
                              (SHELL, clashing(SHELL, next(witnesses(SHELL))))):
            self.assertTrue(list(rings(query)) or list(shells(query)))
            self.assertTrue(agree(query, tables) and all(tables.values()))
            self.assertEqual(list(solutions(query, tables)), [])


if __name__ == "__main__":
    unittest.main()
