"""Rings and shells: [0.13], [4.2], [4.3]."""

import inspect
import itertools
import unittest

from pagewise.errors import InvalidQuery
from pagewise.queries.queries import Query
from pagewise.shapes.rings import is_ring, is_shell, rings, shells
from tests.cases import FAR, LETTERS, RING, SHELL, Case, are_near, have_home, odd_except, odd_values, random_queries

TEN = LETTERS[:10]
GREAT_RING = Query.of(("a",), {"t" + one: (two, one) for one, two in zip(TEN, TEN[1:] + TEN[:1])})
GREAT_SHELL = Query.of(("a",), {"t" + one: tuple(two for two in TEN if two != one) for one in TEN})


def ring_by_words(query, columns):
    size = len(columns)
    if size < 4 or len(set(columns)) < size:
        return False
    beside = {frozenset((at, (at + 1) % size)) for at in range(size)}
    return all(are_near(query, columns[one], columns[two]) == (frozenset((one, two)) in beside)
               for one, two in itertools.combinations(range(size), 2))


def shell_by_words(query, columns):
    if len(columns) < 3 or have_home(query, columns):
        return False
    return all(have_home(query, [other for other in columns if other != one]) for one in columns)


def forms(columns):
    turned = [columns[at:] + columns[:at] for at in range(len(columns))]
    return turned + [form[::-1] for form in turned]


def short_first(found):
    return sorted(found, key=lambda columns: (len(columns), columns))


class Rings(Case):
    def test_ring_of_four(self):
        self.assertEqual(list(rings(RING)), [("a", "b", "c", "d")])
        for form in forms(("a", "b", "c", "d")):
            self.assertIs(is_ring(RING, form), True)
        for form in (("a", "c", "b", "d"), ("a", "b", "c"), ("a", "b", "c", "d", "a"), ("a", "b", "c", "e")):
            self.assertIs(is_ring(RING, form), False)
        self.assertIs(is_ring(RING, ["a", "b", "c", "d"]), False)

    def test_ring_of_ten(self):
        self.assertEqual(list(rings(GREAT_RING)), [TEN])
        for form in forms(TEN):
            self.assertIs(is_ring(GREAT_RING, form), True)
        self.assertIs(is_ring(GREAT_RING, TEN[:9]), False)

    def test_three_columns_are_no_ring(self):
        self.assertEqual(list(rings(SHELL)), [])
        self.assertIs(is_ring(SHELL, ("a", "b", "c")), False)

    def test_other_neighbours(self):
        self.assertEqual(list(rings(RING.with_atom("t", "a", "c"))), [])
        self.assertIs(is_ring(RING.with_atom("t", "a", "c"), ("a", "b", "c", "d")), False)

    def test_first_forms(self):
        query = Query((), p=("d", "b"), q=("b", "c"), r=("c", "a"), s=("a", "d"), t=("a", "e"), u=("e", "b"))
        self.assertEqual(list(rings(query)), [("a", "c", "b", "d"), ("a", "c", "b", "e"), ("a", "d", "b", "e")])

    def test_shorter_ones_first(self):
        atoms = {"t" + one + two: (one, two) for one, two in ("ab", "bc", "cd", "de", "ea", "fg", "gh", "hi", "if")}
        self.assertEqual(list(rings(Query.of((), atoms))), [("f", "g", "h", "i"), ("a", "b", "c", "d", "e")])

    def test_all_tuples_of_small_queries(self):
        some = 0
        for query in random_queries(400, seed=20, most_columns=6, most_atoms=9):
            tuples = [columns for size in range(len(query) + 1)
                      for columns in itertools.permutations(query.columns, size)]
            for columns in tuples:
                self.assertIs(is_ring(query, columns), ring_by_words(query, columns))
            firsts = {min(forms(columns)) for columns in tuples if ring_by_words(query, columns)}
            self.assertEqual(list(rings(query)), short_first(firsts))
            some += len(firsts)
        self.assertGreater(some, 20)


class Shells(Case):
    def test_shell_of_three(self):
        self.assertEqual(list(shells(SHELL)), [("a", "b", "c")])
        self.assertIs(is_shell(SHELL, ("a", "b", "c")), True)
        for value in (("b", "a", "c"), ("a", "b"), ("a", "b", "c", "c"), ["a", "b", "c"], ("a", "b", "d")):
            self.assertIs(is_shell(SHELL, value), False)
        self.assertEqual(list(shells(SHELL.with_atom("t", "c", "b", "a"))), [])
        self.assertEqual(list(shells(SHELL.with_atom("q", "b"))), [])

    def test_shell_of_ten(self):
        self.assertEqual(list(shells(GREAT_SHELL)), [TEN])
        self.assertIs(is_shell(GREAT_SHELL, TEN), True)
        self.assertIs(is_shell(GREAT_SHELL, TEN[:9]), False)
        self.assertEqual(list(rings(GREAT_SHELL)), [])

    def test_two_columns_are_no_shell(self):
        self.assertEqual(list(shells(Query((), p=("a",), q=("b",)))), [])
        self.assertIs(is_shell(Query((), p=("a",), q=("b",)), ("a", "b")), False)

    def test_shorter_ones_first(self):
        atoms = {"pbc": "bc", "pce": "ce", "pbe": "be", "pafg": "afg", "pafh": "afh", "pagh": "agh", "pfgh": "fgh"}
        query = Query.of((), {name: tuple(own) for name, own in atoms.items()})
        self.assertEqual(list(shells(query)), [("b", "c", "e"), ("a", "f", "g", "h")])

    def test_all_tuples_of_small_queries(self):
        some = 0
        for query in random_queries(250, seed=21, most_columns=5, most_atoms=10):
            found = []
            for size in range(len(query) + 1):
                for columns in itertools.permutations(query.columns, size):
                    fits = list(columns) == sorted(columns) and shell_by_words(query, columns)
                    self.assertIs(is_shell(query, columns), fits)
                    found += [columns] * fits
            self.assertEqual(list(shells(query)), found)
            some += len(found)
        self.assertGreater(some, 20)

    def test_neighbours_by_twos(self):
        for query in random_queries(150, seed=22, most_atoms=8):
            inside = [set(columns) for columns in shells(query)]
            for size in range(1, len(query) + 1):
                for columns in itertools.combinations(query.columns, size):
                    if all(are_near(query, one, two) for one, two in itertools.combinations(columns, 2)):
                        self.assertNotEqual(have_home(query, columns), any(one <= set(columns) for one in inside))


class Both(Case):
    def test_shown_columns_do_not_matter(self):
        for query in (RING, SHELL):
            for shown in (("a",), ("c", "a", "b"), ("b", "c")):
                other = query.with_shown_of(shown, down=shown[:1])
                self.assertEqual([list(rings(other)), list(shells(other))], [list(rings(query)), list(shells(query))])

    def test_every_value(self):
        for query in (FAR, RING, SHELL):
            for value in odd_values():
                self.assertIs(is_ring(query, value), False)
                self.assertIs(is_shell(query, value), False)
        for part in odd_values():
            self.assertIs(is_ring(RING, ("a", "b", "c", part)), False)
            self.assertIs(is_shell(SHELL, ("a", "b", part)), False)

    def test_one_by_one(self):
        self.assertTrue(inspect.isgenerator(rings(RING)))
        self.assertTrue(inspect.isgenerator(shells(SHELL)))
        self.assertEqual([next(rings(RING)), next(shells(SHELL))], [("a", "b", "c", "d"), ("a", "b", "c")])

    def test_errors(self):
        for query in odd_except(lambda one: isinstance(one, Query)):
            self.stays_lazy(InvalidQuery, rings, query)
            self.stays_lazy(InvalidQuery, shells, query)
            for value in (None, ("a", "b", "c")):
                self.fails(InvalidQuery, is_ring, query, value)
                self.fails(InvalidQuery, is_shell, query, value)


if __name__ == "__main__":
    unittest.main()
