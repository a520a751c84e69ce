"""Closed rows and full choices, and their translation to tables: [0.14], [13.4]."""

import itertools
import random
import unittest

from pagewise.errors import InvalidOperation, InvalidQuery, InvalidRow
from pagewise.problems.closed import closed_row, closed_tables, full_choice
from pagewise.queries.queries import Query
from pagewise.shapes.rings import rings, shells
from pagewise.tables.answers import solutions
from pagewise.tables.tables import is_tables
from tests.cases import (BIG, BRIDGE, LETTERS, RING, SHELL, TRIO, Case,
                         odd_except, odd_values, random_queries)

LIKE, UNLIKE = ((0, 0), (1, 1)), ((0, 1), (1, 0))
RING_OF, SHELL_OF = ("ring", ("a", "b", "c", "d")), ("shell", ("a", "b", "c"))


def random_face(chance, size, most=8, values=3):
    return tuple(sorted({tuple(chance.randrange(values) for _ in range(size)) for _ in range(chance.randint(0, most))}))


def thick_relation(chance, values):
    """A relation that has most of the pairs."""
    pairs = itertools.product(range(values), repeat=2)
    return tuple(pair for pair in pairs if chance.randrange(values + 2))


def is_closed(relations, row):
    """Whether a row is closed, by the words of the document."""
    return all((row[at], row[(at + 1) % len(row)]) in relation for at, relation in enumerate(relations))


def is_full(faces, row):
    """Whether a choice is full, by the words of the document."""
    return all(row[:at] + row[at + 1:] in face for at, face in enumerate(faces))


def all_rows(size, values):
    return itertools.product(range(values), repeat=size)


def ring_of(size):
    columns = LETTERS[:size]
    return Query.of((), {"t" + one: (one, columns[(at + 1) % size]) for at, one in enumerate(columns)})


def shell_of(size):
    columns = LETTERS[:size]
    return Query.of((), {"t" + one: tuple(other for other in columns if other != one) for one in columns})


def ring_forms(columns):
    """The columns of a ring from each of them on, in both directions."""
    size = len(columns)
    turned = [columns[at:] + columns[:at] for at in range(size)]
    return turned + [one[::-1] for one in turned]


class ClosedRows(Case):
    def test_ordinary(self):
        self.assertEqual(closed_row((LIKE, UNLIKE, UNLIKE, LIKE)), (0, 0, 1, 0))
        self.assertEqual([closed_row((LIKE, LIKE, LIKE, UNLIKE)), closed_row((UNLIKE,) * 3)], [None, None])
        self.assertEqual([closed_row((UNLIKE,) * 4), closed_row((LIKE,) * 3)], [(0, 1, 0, 1), (0, 0, 0)])

    def test_the_least_of_several_ones(self):
        relations = (((1, 5), (2, 4), (2, 5)), ((4, 9), (5, 8), (5, 9)), ((8, 2), (9, 2)))
        self.assertEqual(closed_row(relations), (2, 4, 9))
        self.assertEqual(closed_row((((-2, -3), (-1, -5)), ((-5, 0), (-3, 0)), ((0, -2), (0, -1)))), (-2, -3, 0))

    def test_empty_and_great_ones(self):
        self.assertEqual([closed_row(((),) * 3), closed_row((LIKE, (), LIKE)),
                         closed_row((LIKE,) * 9 + ((),))], [None] * 3)
        self.assertEqual(closed_row((((BIG, -BIG),), ((-BIG, 7),), ((7, BIG),))), (BIG, -BIG, 7))
        self.assertEqual(closed_row((LIKE,) * 10), (0,) * 10)
        step = tuple((number, (number + 1) % 100) for number in range(100))
        back = tuple(sorted(((number + 9) % 100, number) for number in range(100)))
        self.assertEqual(closed_row((step,) * 9 + (back,)), tuple(range(10)))
        self.assertIsNone(closed_row((step,) * 10))
        every = tuple((one, other) for one in range(10) for other in range(10))
        self.assertIsNone(closed_row((every,) * 9 + (((10, 0),),)))

    def test_all_rows(self):
        chance, found = random.Random(1310), 0
        for _ in range(400):
            relations = tuple(random_face(chance, 2, most=7) for _ in range(chance.randint(3, 5)))
            closed = [row for row in all_rows(len(relations), 3) if is_closed(relations, row)]
            self.assertEqual(closed_row(relations), min(closed, default=None))
            found += len(closed) > 1
        self.assertGreater(found, 50)

    def test_errors(self):
        wrong = [(LIKE,) * 2, (LIKE,) * 11, (), [LIKE] * 3, (LIKE, LIKE, ((1, 0), (0, 1))), (LIKE, None, LIKE),
                 (LIKE, LIKE, ((1, 2, 3),)), (LIKE, LIKE, ((1, True),)), (LIKE, LIKE, [(0, 0)]), LIKE,
                 (LIKE, LIKE, tuple((0, number) for number in range(101))), (LIKE, LIKE, ((1, 1), (1, 1))),
                 *odd_values()]
        for value in wrong:
            self.fails(InvalidRow, closed_row, value)


class FullChoices(Case):
    def test_ordinary(self):
        self.assertEqual([full_choice((LIKE,) * 3), full_choice((LIKE, LIKE, UNLIKE))], [(0, 0, 0), None])
        # The faces are b and c, a and c, a and b.
        self.assertEqual(full_choice((((5, 6),), ((4, 6),), ((4, 5),))), (4, 5, 6))
        self.assertIsNone(full_choice((((5, 6),), ((4, 6),), ((5, 4),))))

    def test_the_least_of_several_ones(self):
        every = tuple(all_rows(3, 3))
        self.assertEqual(full_choice((every,) * 4), (0, 0, 0, 0))
        odd = tuple(row for row in every if sum(row) == 4)
        self.assertEqual(full_choice((odd, every, every, every)), (0, 0, 2, 2))
        self.assertEqual(full_choice((every, every, every, odd)), (0, 2, 2, 0))

    def test_empty_and_great_ones(self):
        self.assertEqual([full_choice(((),) * 3), full_choice((LIKE, (), LIKE)), full_choice(((),) * 10)], [None] * 3)
        ten = tuple(tuple([number] * 9) for number in range(-50, 50))
        self.assertEqual(full_choice((ten,) * 10), (-50,) * 10)
        self.assertIsNone(full_choice((ten,) * 9 + (((0,) * 8 + (1,),),)))
        self.assertEqual(full_choice((((-BIG, BIG),), ((1, BIG),), ((1, -BIG),))), (1, -BIG, BIG))
        wide = tuple((one,) + (0,) * 7 + (other,) for one in range(10) for other in range(10))
        last = tuple((one,) + (0,) * 8 for one in range(100))
        self.assertEqual(full_choice((((0,) * 9,),) + (last,) * 9), (0,) * 10)
        self.assertEqual(full_choice((wide,) * 10), (0,) * 10)

    def test_all_choices(self):
        chance, found = random.Random(1311), 0
        for _ in range(400):
            size = chance.randint(3, 5)
            faces = tuple(random_face(chance, size - 1, most=(0, 0, 0, 8, 24, 70)[size], values=3 if size == 3 else 2)
                          for _ in range(size))
            full = [row for row in all_rows(size, 3) if is_full(faces, row)]
            self.assertEqual(full_choice(faces), min(full, default=None))
            found += len(full) > 1
        self.assertGreater(found, 50)

    def test_errors(self):
        three = tuple(all_rows(3, 2))
        wrong = [(LIKE,) * 2, (three,) * 3, (LIKE,) * 4, [LIKE] * 3, (three, three, three, LIKE), (LIKE, UNLIKE, None),
                 (LIKE, LIKE, ((1, 0), (0, 1))), (LIKE, LIKE, ((1, True),)), (((0,) * 10,),) * 11, ((1, 2),) * 3,
                 (LIKE, LIKE, tuple((0, number) for number in range(101))), *odd_values()]
        for value in wrong:
            self.fails(InvalidRow, full_choice, value)


class ClosedTables(Case):
    def check(self, query, witness, inputs, right):
        tables = closed_tables(query, witness, inputs)
        self.assertTrue(is_tables(query, tables))
        self.assertEqual(list(tables), sorted(tables))
        self.assertLessEqual(max(map(len, tables.values())), max(1, *map(len, inputs)))
        found = set()
        for solution in solutions(query, tables):
            self.assertTrue(all(number == 0 for column, number in solution.items() if column not in witness[1]))
            found.add(tuple(solution[column] for column in witness[1]))
        self.assertEqual(found, set(right), (query.atoms, witness))

    def check_ring(self, query, columns, chance, values=2):
        relations = tuple(thick_relation(chance, values) for _ in columns)
        rows = [row for row in all_rows(len(columns), values) if is_closed(relations, row)]
        self.check(query, ("ring", columns), relations, rows)
        return len(rows)

    def test_rings_from_each_column_in_both_directions(self):
        chance, found = random.Random(1312), 0
        for size in (4, 5, 10):
            for columns in ring_forms(LETTERS[:size]):
                found += self.check_ring(ring_of(size), columns, chance)
        self.assertGreater(found, 30)

    def test_shells(self):
        chance, found = random.Random(1313), 0
        for size in (3, 4, 5):
            for _ in range(20):
                faces = tuple(random_face(chance, size - 1, most=2 ** size, values=2) for _ in range(size))
                full = [row for row in all_rows(size, 2) if is_full(faces, row)]
                self.check(shell_of(size), ("shell", LETTERS[:size]), faces, full)
                found += len(full)
        self.assertGreater(found, 30)

    def test_a_shell_of_ten_columns(self):
        ones = tuple(sorted(tuple([number] * 9) for number in range(100)))
        self.check(shell_of(10), ("shell", LETTERS[:10]), (ones,) * 10, [(number,) * 10 for number in range(100)])
        self.check(shell_of(10), ("shell", LETTERS[:10]), (ones,) * 9 + ((),), [])

    def test_other_atoms_and_columns(self):
        ring = RING.with_atom("all", "x", "a").with_atom("none", "y", "x").with_atom("again", "y", "b", "a").with_atom(
            "one", "d")
        shell = SHELL.with_atom("all", "x", "b", "a").with_atom("none", "y", "x").with_atom("one", "c", "y")
        chance, found = random.Random(1314), 0
        for _ in range(60):
            for columns in ring_forms(("a", "b", "c", "d"))[::3]:
                found += self.check_ring(ring.with_shown("x", "c"), columns, chance, values=3)
            faces = tuple(random_face(chance, 2) for _ in range(3))
            self.check(shell, SHELL_OF, faces, [row for row in all_rows(3, 3) if is_full(faces, row)])
        self.assertGreater(found, 30)
        self.check(ring, RING_OF, ((), (), (), ()), [])

    def test_random_queries(self):
        chance, many = random.Random(1315), 0
        for query in random_queries(250, seed=1316, most_columns=6, most_atoms=7):
            for columns in rings(query):
                self.check_ring(query, columns, chance)
                many += 1
            for columns in shells(query):
                faces = tuple(random_face(chance, len(columns) - 1, values=2) for _ in columns)
                self.check(query, ("shell", columns), faces,
                           [row for row in all_rows(len(columns), 2) if is_full(faces, row)])
                many += 1
        self.assertGreater(many, 40)

    def test_what_is_passed_stays(self):
        inputs = (LIKE,) * 4
        closed_tables(RING, RING_OF, inputs).clear()
        self.assertEqual([inputs, closed_tables(RING, RING_OF, inputs)],
                         [(LIKE,) * 4, {"p": LIKE, "q": LIKE, "r": LIKE, "s": LIKE}])

    def test_errors(self):
        for query in odd_except(lambda one: isinstance(one, Query)):
            self.fails(InvalidQuery, closed_tables, query, None, None)
        for witness in (SHELL_OF, ("ring", ("a", "c", "b", "d")), ("ring", ("a", "b", "c")),
                        ("ring", ["a", "b", "c", "d"]),
                        ["ring", ("a", "b", "c", "d")], ("a", "b", "c", "d"), *odd_values()):
            self.fails(InvalidOperation, closed_tables, RING, witness, None)
        self.fails(InvalidOperation, closed_tables, SHELL, ("shell", ("b", "a", "c")), (LIKE,) * 3)
        self.fails(InvalidOperation, closed_tables, TRIO, ("trio", ("x", "y", "z")), (LIKE,) * 3)
        self.fails(InvalidOperation, closed_tables, BRIDGE, ("bridge", ("x", "z", "y")), (LIKE,) * 3)
        wrong = [(LIKE,) * 2, (LIKE,) * 5, [LIKE] * 4, [LIKE] * 3, (LIKE, LIKE, LIKE, ((1, 0), (0, 1))),
                 (LIKE, LIKE, None),
                 (LIKE, LIKE, LIKE, tuple((0, number) for number in range(101))), (LIKE, LIKE, ((1, True),)),
                 (LIKE, LIKE, ((1, 2, 3),)), *odd_values()]
        for inputs in wrong:
            self.fails(InvalidRow, closed_tables, RING, RING_OF, inputs)
            self.fails(InvalidRow, closed_tables, SHELL, SHELL_OF, inputs)
        self.fails(InvalidRow, closed_tables, RING, RING_OF, (LIKE,) * 3)
        self.fails(InvalidRow, closed_tables, SHELL, SHELL_OF, (LIKE,) * 4)
        three = tuple(all_rows(3, 2))
        self.fails(InvalidRow, closed_tables, shell_of(4), ("shell", LETTERS[:4]), (LIKE,) * 4)
        self.assertEqual(closed_tables(shell_of(4), ("shell", LETTERS[:4]), (three,) * 4)["ta"], three)


if __name__ == "__main__":
    unittest.main()
