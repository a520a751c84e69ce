"""Reduced tables, tables that agree, and numbers of solutions: [0.14], [0.15], [14.1], [14.2]."""

import itertools
import random
import unittest

from pagewise.errors import InvalidOperation, InvalidQuery, InvalidTables, Unsorted
from pagewise.queries.queries import Query
from pagewise.shapes.rings import is_ring, is_shell, rings, shells
from pagewise.tables.answers import solutions
from pagewise.tables.reduced import agree, any_solution, clashing, count_solutions, is_reduced, reduced
from pagewise.tables.tables import is_tables
from tests.cases import (BIG, BRIDGE, FAR, LETTERS, RING, ROWS, SHELL, TRIO, Case, odd_except, odd_values,
                         random_queries,
                         random_tables, wide_query, wide_tables)
from tests.test_closed import ring_forms, ring_of, shell_of

LOOSE = {"r": ((1, 1), (3, 4)), "s": ((1, 5), (2, 5))}
LIKE, UNLIKE = ((0, 0), (1, 1)), ((0, 1), (1, 0))
NONE = {"r": (), "s": ()}
APART = Query(("a",), p=("a",), q=("b",))
# No ring and no shell, because an atom covers the three columns.
COVERED = SHELL.with_atom("s", "c", "a", "b")


def used(query, tables):
    """The tables of the used rows, by the words of the document."""
    found = list(solutions(query, tables))
    parts = {name: {tuple(one[column] for column in own) for one in found} for name, own in query.atoms.items()}
    return {name: tuple(row for row in tables[name] if row in parts[name]) for name in query.atoms}


def agree_by_words(query, tables):
    for (name, own), (other, columns) in itertools.combinations(query.atoms.items(), 2):
        common = sorted(set(own) & set(columns))
        first = {tuple(row[own.index(column)] for column in common) for row in tables[name]}
        if first != {tuple(row[columns.index(column)] for column in common) for row in tables[other]}:
            return False
    return True


def is_without_cycle(query):
    return not list(rings(query)) and not list(shells(query))


class Agree(Case):
    def test_ordinary(self):
        self.assertEqual([agree(FAR, LOOSE), agree(FAR, ROWS), agree(BRIDGE, ROWS), agree(TRIO, LOOSE)],
                         [False, True, True, False])
        self.assertEqual([agree(FAR, {"r": ((1, 1),), "s": ((1, 5), (2, 5))}),
                          agree(FAR, {"r": ((1, 1), (1, 2)), "s": ((1, 5),)})], [False, False])

    def test_no_rows_and_no_common_columns(self):
        self.assertEqual([agree(FAR, NONE), agree(FAR, {"r": (), "s": ((1, 1),)}),
                          agree(FAR, {"r": ((1, 1),), "s": ()})],
                         [True, False, False])
        self.assertEqual([agree(APART, {"p": ((1,), (2,)), "q": ((5,),)}), agree(APART, {"p": (), "q": ()}),
                          agree(APART, {"p": ((1,),), "q": ()}), agree(APART, {"p": (), "q": ((1,),)})],
                         [True, True, False, False])
        self.assertTrue(agree(Query((), r=("x",)), {"r": ((1,), (2,))}))

    def test_with_a_ring_or_a_shell(self):
        self.assertEqual([agree(SHELL, {"p": LIKE, "q": LIKE, "r": UNLIKE}),
                          agree(RING, {"p": LIKE, "q": LIKE, "r": LIKE, "s": UNLIKE}),
                          agree(RING, {"p": LIKE, "q": LIKE, "r": LIKE, "s": ((0, 1),)})], [True, True, False])

    def test_by_words(self):
        chance, true = random.Random(1400), 0
        for query in random_queries(400, seed=1401):
            tables = random_tables(chance, query, most_rows=chance.choice((2, 9)), values=2)
            for one in (tables, used(query, tables)):
                self.assertEqual(agree(query, one), agree_by_words(query, one))
                true += agree(query, one) and any(one.values())
        self.assertGreater(true, 50)


class Reduced(Case):
    def test_ordinary(self):
        self.assertEqual([reduced(FAR, LOOSE), reduced(BRIDGE, ROWS)], [{"r": ((1, 1),), "s": ((1, 5),)}, ROWS])
        self.assertEqual([is_reduced(BRIDGE, ROWS), is_reduced(FAR, LOOSE),
                         is_reduced(TRIO, NONE)], [True, False, True])
        self.assertEqual(reduced(FAR, {"r": ((1, 1),), "s": ((2, 5),)}), NONE)
        self.assertEqual(reduced(APART, {"p": ((1,), (2,)), "q": ()}), {"p": (), "q": ()})

    def test_keys_are_ascending_and_nothing_is_changed(self):
        loose = {"s": LOOSE["s"], "r": LOOSE["r"]}
        result = reduced(FAR, loose)
        self.assertEqual([list(result), list(loose), loose], [["r", "s"], ["s", "r"], LOOSE])
        result.clear()
        self.assertEqual([reduced(FAR, loose), loose], [{"r": ((1, 1),), "s": ((1, 5),)}, LOOSE])

    def test_rows_far_away_count(self):
        names = LETTERS[:9]
        query = Query.of((), {"t" + one: (one, other) for one, other in zip(names, LETTERS[1:10])})
        for order in (names, names[::-1]):
            tables = {"t" + one: ((0, 0), (1, 1)) for one in names}
            tables["t" + order[-1]] = ((1, 1), (1, 2))
            self.assertEqual(reduced(query, tables)["t" + order[0]], ((1, 1),))
        self.assertEqual(reduced(query, {**tables, "td": ()}), {name: () for name in query.atoms})

    def test_solutions(self):
        self.assertEqual([any_solution(BRIDGE, LOOSE), count_solutions(BRIDGE, ROWS), count_solutions(FAR, LOOSE)],
                         [{"x": 1, "y": 5, "z": 1}, 5, 1])
        self.assertEqual(list(any_solution(FAR, LOOSE)), ["x", "y", "z"])
        self.assertEqual([any_solution(FAR, NONE), count_solutions(FAR, NONE)], [None, 0])
        self.assertEqual([any_solution(FAR, {"r": ((1, 1),), "s": ((2, 5),)}),
                          any_solution(APART, {"p": ((BIG,),), "q": ()})],
                         [None, None])
        self.assertEqual(any_solution(APART, {"p": ((BIG,),), "q": ((-BIG,),)}), {"a": BIG, "b": -BIG})

    def test_by_all_solutions(self):
        chance, seen = random.Random(1402), {}
        for query in random_queries(500, seed=1403, most_columns=6):
            if not is_without_cycle(query):
                continue
            for most, values in ((3, 2), (6, 2), (9, 3)):
                tables = random_tables(chance, query, most_rows=most, values=values)
                found, right = list(solutions(query, tables)), used(query, tables)
                self.assertEqual(reduced(query, tables), right)
                self.assertEqual([is_reduced(query, tables), is_reduced(query, right)], [tables == right, True])
                self.assertEqual(count_solutions(query, tables), len(found))
                self.assertIn(any_solution(query, tables), found or [None])
                self.assertEqual([agree(query, tables), agree(query, right)], [tables == right, True])
                seen[tables == right] = seen.get(tables == right, 0) + 1
                seen["some"] = seen.get("some", 0) + bool(found)
        self.assertTrue(min(seen.values()) > 50 and len(seen) == 3, seen)

    def test_more_solutions_than_could_be_listed(self):
        self.assertEqual(count_solutions(wide_query(), wide_tables()), 10 ** 30)
        chain = Query.of((), {"t" + one: (one, other) for one, other in zip(LETTERS, LETTERS[1:10])})
        tables = {name: tuple(itertools.product(range(31), repeat=2)) for name in chain.atoms}
        self.assertEqual([count_solutions(chain, tables), is_reduced(chain, tables)], [31 ** 10, True])
        self.assertEqual(any_solution(chain, tables), dict.fromkeys(LETTERS[:10], any_solution(chain, tables)["a"]))
        tables["te"] = tuple((number, 40 + number) for number in range(31))
        self.assertEqual([count_solutions(chain, tables), any_solution(chain, tables)], [0, None])

    def test_what_is_shown_plays_no_part(self):
        for shown in (("x", "z", "y"), ("x", "y", "z"), ("x", "y"), (), ("y",)):
            query = FAR.with_shown(*shown, down=shown[:1])
            self.assertEqual([agree(query, ROWS), reduced(query, LOOSE), is_reduced(query, ROWS),
                              count_solutions(query, ROWS)],
                             [True, {"r": ((1, 1),), "s": ((1, 5),)}, True, 5])
            self.assertEqual(any_solution(query, LOOSE), {"x": 1, "y": 5, "z": 1})

    def test_the_witness_is_a_ring_or_a_shell(self):
        both = RING.with_atom("t", "a", "x").with_atom("u", "x", "y").with_shown("a", "y")
        queries = [RING, SHELL, both, SHELL.with_shown("a", "b", "c"), *random_queries(400, seed=1404)]
        many = 0
        for query in queries:
            if not is_without_cycle(query):
                tables = {name: () for name in query.atoms}
                for function in (reduced, is_reduced, any_solution, count_solutions):
                    word, columns = self.fails(Unsorted, function, query, tables).witness
                    self.assertTrue(is_ring(query, columns) if word == "ring" else is_shell(query, columns))
                    self.assertIn(word, ("ring", "shell"))
                many += 1
        self.assertGreater(many, 30)
        self.assertEqual([count_solutions(COVERED, {"p": LIKE, "q": LIKE, "r": LIKE, "s": ((0, 0, 0),)}), agree(SHELL, {
            "p": (), "q": (), "r": ()})], [1, True])

    def test_errors(self):
        for function in (agree, reduced, is_reduced, any_solution, count_solutions):
            for query in odd_except(lambda one: isinstance(one, Query)):
                self.fails(InvalidQuery, function, query, None)
            for tables in ({"r": ((1, 1),)}, {"r": ((2, 1), (1, 1)), "s": ()}, {"r": ((1, True),), "s": ()},
                           {"r": (), "s": (), "t": ()}, *odd_except(lambda one: one == ROWS)):
                self.fails(InvalidTables, function, FAR, tables)
                self.fails(InvalidTables, function, RING, tables)


class Clashing(Case):
    def check(self, query, witness):
        tables = clashing(query, witness)
        self.assertEqual(list(tables), sorted(tables))
        self.assertTrue(is_tables(query, tables) and all(tables.values()))
        self.assertTrue(agree(query, tables) and agree_by_words(query, tables), (query.atoms, witness))
        self.assertEqual(list(solutions(query, tables)), [])

    def test_rings_and_shells_of_all_sizes(self):
        for size in range(4, 11):
            for columns in ring_forms(LETTERS[:size]):
                self.check(ring_of(size), ("ring", columns))
        for size in range(3, 11):
            self.check(shell_of(size), ("shell", LETTERS[:size]))

    def test_other_atoms_and_columns(self):
        ring = RING.with_atom("all", "x", "a").with_atom("none", "y", "x").with_atom("again", "y", "a", "d").with_atom(
            "one", "d").with_shown("x", "a")
        for columns in ring_forms(("a", "b", "c", "d")):
            self.check(ring, ("ring", columns))
        shell = shell_of(4).with_atom("one", "a", "x").with_atom("two", "b", "c", "y").with_atom("none", "x",
                                                                                                 "y").with_atom(
            "again", "c", "b", "d", "x")
        self.check(shell, ("shell", LETTERS[:4]))

    def test_random_queries(self):
        many = 0
        for query in random_queries(400, seed=1405, most_columns=6, most_atoms=7):
            for witness in [("ring", one) for one in rings(query)] + [("shell", one) for one in shells(query)]:
                self.check(query, witness)
                many += 1
        self.assertGreater(many, 60)

    def test_errors(self):
        for query in odd_except(lambda one: isinstance(one, Query)):
            self.fails(InvalidQuery, clashing, query, None)
        for witness in (("shell", ("a", "b", "c")), ("ring", ("a", "c", "b", "d")), ("ring", ["a", "b", "c", "d"]),
                        ["ring", ("a", "b", "c", "d")], ("a", "b", "c", "d"), *odd_values()):
            self.fails(InvalidOperation, clashing, RING, witness)
        self.fails(InvalidOperation, clashing, SHELL, ("shell", ("c", "a", "b")))
        self.fails(InvalidOperation, clashing, TRIO, ("trio", ("x", "y", "z")))
        self.fails(InvalidOperation, clashing, BRIDGE, ("bridge", ("x", "z", "y")))
        self.fails(InvalidOperation, clashing, FAR, ("order", ("x", "z", "y")))


if __name__ == "__main__":
    unittest.main()
