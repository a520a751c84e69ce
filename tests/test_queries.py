"""Queries: [0.2], [0.4], [0.7], [0.9], [2.1]."""

import inspect
import itertools
import unittest

from pagewise.errors import InvalidOperation, InvalidQuery, TooMany, UnknownName
from pagewise.queries.queries import Query
from tests.cases import BRIDGE, FAR, LETTERS, ROWS, TRIO, Case, nested, odd_except, odd_values, random_queries

WIDE = tuple(LETTERS[:10])
TEN = {"t" + letter: (letter,) for letter in WIDE}
NO_NAMES = (None, True, 3, "", "abcdefghi", "X", "a b", (), ("x",), [], ["r"], {}, FAR)
NO_COLUMNS = (None, 5, "x", "", (), [], ["x"], {"x": 1}, ("x", "x"), ("X",), ("",), ("abcdefghi",), (["x"],), ({},),
              ((),), (("x",),), (None,), (True,), ("x", 1), FAR)
NO_SHOWN = (None, True, 1, "x", "", ["x"], [], {"x": 1}, {}, ("x", "x"), ("w",), ("x", "w"), (["x"],), ({},), ((),),
            (None,), (1,), ("",), ("r",), FAR, ROWS, nested(tuple, 10), nested(list, 10), nested(dict, 10))


class Making(Case):
    def test_by_keywords(self):
        query = Query(("x", "z"), down=("z", "x"), s=("z", "y"), r=("x", "z"))
        self.assertEqual(query.shown, ("x", "z"))
        self.assertEqual(query.down, ("x", "z"))
        self.assertEqual(list(query.atoms.items()), [("r", ("x", "z")), ("s", ("z", "y"))])
        self.assertEqual(query.columns, ("x", "y", "z"))
        self.assertEqual(query.hidden, ("y",))

    def test_without_shown(self):
        query = Query(r=("b", "a"))
        self.assertEqual([query.shown, query.down, query.hidden, query.atoms], [(), (), ("a", "b"), {"r": ("b", "a")}])

    def test_of(self):
        self.assertEqual(Query.of(("x", "z", "y"), {"s": ("z", "y"), "r": ("x", "z")}), FAR)
        names = {"shown": ("self",), "down": ("down", "self"), "self": ("shown", "down")}
        query = Query.of(("self", "shown"), names, down=("shown",))
        self.assertEqual([query.atoms, query.shown, query.down], [names, ("self", "shown"), ("shown",)])
        self.assertEqual(list(query.atoms), ["down", "self", "shown"])
        self.assertEqual(query.with_atom("self", "shown").atom("self"), ("shown",))

    def test_edges_of_names(self):
        query = Query(("a", "abcdefgh"), z=("a",), zzzzzzzz=("abcdefgh", "a"), a=("zzzzzzzz",))
        self.assertEqual(query.columns, ("a", "abcdefgh", "zzzzzzzz"))

    def test_ten_atoms_and_columns(self):
        self.assertEqual([Query.MAX_ATOMS, Query.MAX_COLUMNS], [10, 10])
        self.assertEqual(Query.of(WIDE, TEN).shown, WIDE)
        self.assertEqual(len(Query(WIDE, r=WIDE)), 10)

    def test_eleven_atoms_or_columns(self):
        self.keeps(TooMany, "limit", 10, Query.of, (), {"t" + letter: ("x",) for letter in LETTERS[:11]})
        self.keeps(TooMany, "limit", 10, Query, (), r=LETTERS[:11])
        self.keeps(TooMany, "limit", 10, Query, LETTERS[:11], r=LETTERS[:6], s=LETTERS[5:11])
        self.keeps(TooMany, "limit", 10, Query.of, (), {"t" + letter: (letter,) for letter in LETTERS[:11]})

    def test_wrong_atoms(self):
        self.fails(InvalidQuery, Query)
        self.fails(InvalidQuery, Query, ())
        self.fails(InvalidQuery, Query, (), abcdefghi=("x",))
        self.fails(InvalidQuery, Query, (), R=("x",))
        for columns in NO_COLUMNS:
            self.fails(InvalidQuery, Query, (), r=columns)
            self.fails(InvalidQuery, Query, (), q=("x",), r=columns)
        for atoms in odd_except(lambda one: one == {"r": ("x",)} or one == FAR.atoms):
            self.fails(InvalidQuery, Query.of, (), atoms)
        for key in (None, True, 1, "", "X", "abcdefghi", (), ("r",)):
            self.fails(InvalidQuery, Query.of, (), {"r": ("x",), key: ("x",)})

    def test_wrong_shown(self):
        for shown in NO_SHOWN:
            self.fails(InvalidQuery, Query, shown, r=("x", "z"))
            self.fails(InvalidQuery, Query.of, shown, {"r": ("x", "z")})
        for shown in odd_except(lambda one: one in ((), ("x",), ("x", "z"))):
            self.fails(InvalidQuery, Query, shown, r=("x", "z"))

    def test_wrong_down(self):
        for down in (*NO_SHOWN, ("z",), ("x", "z")):
            self.fails(InvalidQuery, Query, ("x",), down=down, r=("x", "z"))
            self.fails(InvalidQuery, Query.of, ("x",), {"r": ("x", "z")}, down=down)

    def test_too_many_comes_last(self):
        wide = LETTERS[:11]
        self.fails(InvalidQuery, Query, ("z",), r=wide)
        self.fails(InvalidQuery, Query, ("a",), down=("b",), r=wide)
        self.fails(InvalidQuery, Query, (), r=wide, s=())
        self.fails(InvalidQuery, Query.of, (), {"T" + letter: ("x",) for letter in wide})


class Reading(Case):
    def test_atom(self):
        self.assertEqual([FAR.atom("r"), FAR.atom("s")], [("x", "z"), ("z", "y")])
        for name in odd_except(lambda one: one == "r"):
            self.keeps(UnknownName, "name", name, FAR.atom, name)

    def test_having(self):
        self.assertEqual([list(FAR.having(column)) for column in "xyz"], [["r"], ["s"], ["r", "s"]])
        self.assertTrue(inspect.isgenerator(FAR.having("x")))
        self.assertTrue(inspect.isgenerator(FAR.having("w")))
        for column in odd_except(lambda one: one in ("x", "z")):
            self.assertIs(self.stays_lazy(UnknownName, FAR.having, column).name, column)

    def test_contains(self):
        for column in ("x", "y", "z"):
            self.assertIs(column in FAR, True)
        for value in odd_except(lambda one: one in ("x", "z")):
            self.assertIs(value in FAR, False)

    def test_len_and_str(self):
        self.assertEqual([len(FAR), str(FAR), str(BRIDGE)],
                         [3, "query of 2 atoms, 3 columns, 3 shown", "query of 2 atoms, 3 columns, 2 shown"])
        self.assertEqual(str(Query(r=("x",))), "query of 1 atoms, 1 columns, 0 shown")

    def test_not_iterated(self):
        self.fails(TypeError, iter, FAR)
        self.fails(TypeError, list, FAR)

    def test_methods_stand_in_the_class(self):
        for name in ("__init__", "of", "shown", "down", "atoms", "columns", "hidden", "atom", "having", "with_atom",
                     "with_atom_of", "without_atom", "with_shown", "with_shown_of", "renamed", "renamed_by",
                     "__or__", "__invert__", "__contains__", "__len__", "__str__", "__eq__"):
            self.assertIn(name, vars(Query))
        self.assertEqual(Query.__module__, "pagewise.queries.queries")


class Equality(Case):
    def test_equal(self):
        self.assertTrue(FAR == Query(("x", "z", "y"), s=("z", "y"), r=("x", "z")))
        self.assertFalse(FAR != Query(("x", "z", "y"), s=("z", "y"), r=("x", "z")))
        self.assertTrue(Query(("x", "z"), down=("x", "z"), r=("x", "z")) == Query(("x", "z"), down=("z", "x"),
                                                                                  r=("x", "z")))

    def test_unequal(self):
        for other in (TRIO, BRIDGE, ~FAR, Query(("x", "z", "y"), r=("z", "x"), s=("z", "y")),
                      Query(("x", "z", "y"), r=("x", "z"), t=("z", "y")), FAR.with_atom("t", "x"),
                      FAR.with_shown("x", "z", "y", down=("x",))):
            self.assertFalse(FAR == other)
            self.assertTrue(FAR != other)

    def test_every_value(self):
        for value in odd_except(lambda one: one is FAR):
            self.assertIs(FAR == value, False)
            self.assertIs(value == FAR, False)
            self.assertIs(FAR != value, True)


class Unchanged(Case):
    def test_passed_dicts(self):
        atoms, names = {"s": ("z", "y"), "r": ("x", "z")}, {"x": "y", "y": "x"}
        query = Query.of(("x", "z", "y"), atoms)
        FAR.renamed_by(names)
        self.assertEqual([list(atoms.items()), names],
                         [[("s", ("z", "y")), ("r", ("x", "z"))], {"x": "y", "y": "x"}])
        atoms["r"] = ("w",)
        del atoms["s"]
        self.assertEqual(query, FAR)

    def test_returned_dicts(self):
        query = Query(("x",), r=("x", "z"))
        query.atoms["s"] = ("y",)
        query.atoms.clear()
        self.assertEqual([query.atoms, query.columns], [{"r": ("x", "z")}, ("x", "z")])

    def test_properties_cannot_be_assigned(self):
        for name in ("shown", "down", "atoms", "columns", "hidden"):
            self.fails(AttributeError, setattr, FAR, name, ())

    def test_a_query_stays(self):
        query = Query(("x", "z"), down=("z",), r=("x", "z"), s=("z", "y"))
        before = (query.shown, query.down, query.atoms)
        for _ in (query | BRIDGE, ~query, query.renamed(x="w"), query.with_atom("r", "x", "z", "v"),
                  query.without_atom("s"), query.with_shown("y")):
            self.assertEqual((query.shown, query.down, query.atoms), before)


class OtherQueries(Case):
    def test_with_atom(self):
        self.assertEqual(FAR.with_atom("a", "w", "x").atoms, {"a": ("w", "x"), "r": ("x", "z"), "s": ("z", "y")})
        self.assertEqual(FAR.with_atom("r", "z", "x").atom("r"), ("z", "x"))
        self.assertEqual(list(FAR.with_atom("a", "w").atoms), ["a", "r", "s"])
        self.assertEqual(FAR.with_atom_of("r", ("x", "z")), FAR)
        low = Query(("x",), down=("x",), r=("x", "z")).with_atom_of("q", ("x",))
        self.assertEqual([low.shown, low.down, low.atoms], [("x",), ("x",), {"q": ("x",), "r": ("x", "z")}])

    def test_with_atom_errors(self):
        for name in NO_NAMES:
            self.fails(InvalidQuery, FAR.with_atom, name, "x")
            self.fails(InvalidQuery, FAR.with_atom_of, name, ("x",))
        for columns in NO_COLUMNS:
            self.fails(InvalidQuery, FAR.with_atom_of, "t", columns)
        for columns in ((), ("x", "x"), (["x"],), ("X",), (None,)):
            self.fails(InvalidQuery, FAR.with_atom, "t", *columns)
        self.fails(InvalidQuery, FAR.with_atom, "r", "w")
        self.fails(InvalidQuery, FAR.with_atom_of, "s", ("z",))

    def test_with_too_many(self):
        full = Query.of((), TEN)
        self.assertEqual(len(full.with_atom("ta", "a", "b").atoms), 10)
        self.keeps(TooMany, "limit", 10, full.with_atom, "x", "a")
        self.keeps(TooMany, "limit", 10, full.with_atom, "ta", "a", "z")
        self.keeps(TooMany, "limit", 10, full.with_atom_of, "x", ("a",))
        self.fails(InvalidQuery, full.with_atom, "x", "a", "a")
        self.fails(InvalidQuery, full.with_shown("a").with_atom, "ta", "y", "z")

    def test_without_atom(self):
        self.assertEqual(BRIDGE.with_shown("x").without_atom("s"), Query(("x",), r=("x", "z")))
        for name in odd_except(lambda one: one == "r"):
            self.keeps(UnknownName, "name", name, FAR.without_atom, name)
        self.fails(InvalidQuery, FAR.without_atom, "s")
        self.fails(InvalidQuery, Query((), r=("x",)).without_atom, "r")
        self.keeps(UnknownName, "name", "t", Query((), r=("x",)).without_atom, "t")

    def test_with_shown(self):
        self.assertEqual(FAR.with_shown().shown, ())
        query = (~FAR).with_shown("y", "x")
        self.assertEqual([query.shown, query.down, query.atoms], [("y", "x"), (), FAR.atoms])
        query = FAR.with_shown_of(("y", "z", "x"), down=("z", "x"))
        self.assertEqual([query.shown, query.down], [("y", "z", "x"), ("x", "z")])
        self.assertEqual(FAR.with_shown("y", "x", down=("x",)).down, ("x",))

    def test_with_shown_errors(self):
        for columns in NO_SHOWN:
            self.fails(InvalidQuery, FAR.with_shown_of, columns)
            self.fails(InvalidQuery, FAR.with_shown_of, ("x",), down=columns)
            self.fails(InvalidQuery, FAR.with_shown, "x", down=columns)
        for columns in (("x", "x"), ("w",), (["x"],), (None,), (("x",),)):
            self.fails(InvalidQuery, FAR.with_shown, *columns)
        self.fails(InvalidQuery, FAR.with_shown, "x", down=("z",))


class Renaming(Case):
    def test_renamed(self):
        query = Query(("x", "z"), down=("x",), r=("x", "z"), s=("z", "y")).renamed(x="y", y="z", z="a")
        self.assertEqual([query.shown, query.down, query.atoms, query.columns],
                         [("y", "a"), ("y",), {"r": ("y", "a"), "s": ("a", "z")}, ("a", "y", "z")])
        self.assertEqual(FAR.renamed(), FAR)
        self.assertEqual(FAR.renamed_by({}), FAR)
        self.assertEqual(FAR.renamed_by({"x": "x"}), FAR)
        self.assertEqual(Query(("self",), r=("self",)).renamed_by({"self": "x"}), Query(("x",), r=("x",)))
        self.assertEqual((~FAR).renamed(x="zz").down, ("y", "z", "zz"))

    def test_atoms_keep_their_names(self):
        self.assertEqual(Query(("r",), r=("r", "s")).renamed(r="t").atoms, {"r": ("t", "s")})

    def test_errors(self):
        for names in odd_except(lambda one: isinstance(one, dict) and all(isinstance(key, str) for key in one)):
            self.fails(InvalidOperation, FAR.renamed_by, names)
        self.keeps(UnknownName, "name", "r", FAR.renamed, x="a", w="b", r="c")
        self.keeps(UnknownName, "name", "", FAR.renamed_by, {"x": None, "w": "a", "": "b"})
        self.keeps(UnknownName, "name", "A", FAR.renamed_by, {"w": "a", "A": "b"})
        for new in (*NO_NAMES, "y", "z"):
            self.fails(InvalidQuery, FAR.renamed, x=new)
            self.fails(InvalidQuery, FAR.renamed_by, {"x": new})
        self.fails(InvalidQuery, FAR.renamed, x="a", y="a")
        self.fails(InvalidQuery, FAR.with_shown().renamed, x="y")
        self.fails(InvalidQuery, FAR.with_shown().renamed, x="a", y="a")

    def test_the_first_error_counts(self):
        self.fails(InvalidOperation, FAR.renamed_by, {"w": 1, 2: "x"})
        self.fails(UnknownName, FAR.renamed_by, {"x": 1, "w": "a"})


class Together(Case):
    def test_or(self):
        first = Query(("b", "a"), down=("b",), r=("a", "b"))
        second = Query(("c", "b", "a"), down=("c", "a"), s=("b", "c"), r=("a", "b"), t=("d",))
        both = first | second
        self.assertEqual([both.shown, both.down, both.atoms],
                         [("b", "a", "c"), ("b", "c"), {"r": ("a", "b"), "s": ("b", "c"), "t": ("d",)}])
        both = second | first
        self.assertEqual([both.shown, both.down], [("c", "b", "a"), ("a", "c")])
        self.assertEqual(FAR | FAR, FAR)
        self.assertEqual(list((second | first).atoms), ["r", "s", "t"])

    def test_or_errors(self):
        for other in odd_except(lambda one: isinstance(one, Query)):
            self.fails(InvalidOperation, lambda: FAR | other)
            self.fails(InvalidOperation, lambda: other | FAR)
        self.fails(InvalidOperation, lambda: FAR | FAR.with_atom("r", "z", "x"))
        self.fails(InvalidOperation, lambda: FAR | FAR.with_atom("r", "x", "z", "y"))

    def test_or_too_many(self):
        five = {"t" + letter: (letter,) for letter in LETTERS[:5]}
        more = {"t" + letter: (letter,) for letter in LETTERS[5:11]}
        self.keeps(TooMany, "limit", 10, lambda: Query.of((), five) | Query.of((), more))
        self.keeps(TooMany, "limit", 10, lambda: Query((), r=LETTERS[:6]) | Query((), s=LETTERS[5:11]))
        self.keeps(TooMany, "limit", 10, lambda: Query.of((), TEN) | Query((), r=("a",)))
        self.assertEqual(len(Query.of((), five) | Query((), r=LETTERS[5:10])), 10)
        self.fails(InvalidOperation, lambda: Query.of((), {**TEN, "ta": ("a", "b")}) | Query((), ta=("a",), r=("a",)))

    def test_invert(self):
        self.assertEqual([(~FAR).down, (~FAR).shown, (~~FAR) == FAR], [("x", "y", "z"), FAR.shown, True])
        self.assertEqual((~FAR.with_shown("z", "x", down=("x",))).down, ("z",))
        self.assertEqual(~FAR.with_shown(), FAR.with_shown())

    def test_random_queries(self):
        queries = random_queries(40, seed=2)
        for first, second in itertools.product(queries, repeat=2):
            if any(first.atoms[name] != second.atoms[name] for name in set(first.atoms) & set(second.atoms)):
                self.fails(InvalidOperation, lambda: first | second)
            else:
                self.check_together(first, second)

    def check_together(self, first, second):
        both = first | second
        self.assertEqual(both.atoms, {**first.atoms, **second.atoms})
        self.assertEqual(both.shown[:len(first.shown)], first.shown)
        self.assertEqual(both.shown[len(first.shown):], tuple(c for c in second.shown if c not in first.shown))
        for column in both.shown:
            self.assertEqual(column in both.down, column in (first if column in first.shown else second).down)


class EveryValue(Case):
    def test_no_other_error(self):
        calls = (FAR.with_shown_of, FAR.renamed_by, FAR.without_atom, lambda one: FAR.with_atom_of("t", one),
                 lambda one: FAR.with_shown("x", down=one), lambda one: FAR.with_atom("t", one),
                 lambda one: Query(one, r=("x",)), lambda one: Query.of((), {"r": one}))
        for call, value in itertools.product(calls, odd_values()):
            try:
                self.assertIsInstance(call(value), Query)
            except (InvalidQuery, InvalidOperation, UnknownName):
                pass


if __name__ == "__main__":
    unittest.main()
