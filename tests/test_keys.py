"""Keys, grown queries and tables, and pages by keys: [0.2], [0.4], [0.14], [15.1] to [15.4]."""

import itertools
import random
import unittest

from pagewise.errors import InvalidKey, InvalidNumber, InvalidQuery, InvalidRow, InvalidTables, Unsorted
from pagewise.keys.keys import KeyedPages, grown, grown_tables, holds_key, is_key, shown_part
from pagewise.orders.good import good_order
from pagewise.pages.pages import Pages
from pagewise.queries.queries import Query
from pagewise.shapes.witnesses import is_witness
from pagewise.tables.answers import answers
from tests.cases import (BIG, BRIDGE, FAR, LETTERS, RING, ROWS, SHELL, TRIO, Case, is_whole, odd_except, odd_values,
                         random_query, random_tables)

KEY = ("r", ("x",), "z")
FEW = {"r": ((1, 1), (2, 2)), "s": ROWS["s"]}
WRONG_KEYS = [("r", ("z",), "z"), ("r", ("x", "z"), "x"), ("r", ("x",), "y"), ("r", ["x"], "z"), ["r", ("x",), "z"],
              ("q", ("x",), "z"), ("r", ("x",)), ("r", ("x",), "z", ()), ("r", ("z", "x"), "y"), ("r", ("x", "x"), "z"),
              ("r", ("x",), ("z",)), ("r", "x", "z"), ("r", ("y",), "z"), ("r", (1,), "z"), (["r"], ("x",), "z"),
              ("r", ("x",), None), ("r", ("x",), ["z"]), ({}, (), {}), ("r", ({},), "z")]
PAIRS = Query(("a", "b", "c"), down=("b",), p=("a", "b"), q=("b", "c"), r=("c", "d"), s=("d", "a"))
STAR = Query(("a", "b", "c"), down=("a", "c"), p=("a", "z"), q=("b", "z"), r=("c", "z"), t=("k",))


def all_keys(query):
    """All keys of a query, by the words of the document."""
    return [(name, given, found) for name, own in query.atoms.items() for size in range(len(own))
            for given in itertools.combinations(sorted(own), size) for found in own if found not in given]


def holds_by_words(query, tables, key):
    name, given, found = key
    own = query.atom(name)
    rows = [dict(zip(own, row)) for row in tables[name]]
    return all(one[found] == other[found] for one in rows for other in rows
               if all(one[column] == other[column] for column in given))


def decided_by_words(query, columns, keys):
    """The least set of columns with these ones to which each key adds nothing, among all sets of columns."""
    for size in range(len(query.columns) + 1):
        for some in map(set, itertools.combinations(query.columns, size)):
            if set(columns) <= some and all(found in some for _, given, found in keys if set(given) <= some):
                return some


def shown_by_words(query, keys):
    shown = sorted(decided_by_words(query, (), keys))
    for column in query.shown:
        if column not in shown:
            shown += [column]
            shown += sorted(decided_by_words(query, shown, keys) - set(shown))
    return tuple(shown)


def growth_by_words(query, tables, keys):
    """The atoms and the rows of the grown query, each row as a dict while it grows."""
    atoms = {name: list(own) for name, own in query.atoms.items()}
    rows = {name: [dict(zip(own, row)) for row in tables[name]] for name, own in query.atoms.items()}
    passed = {name: list(own) for name, own in rows.items()}
    before = None
    while before != atoms:
        before = {name: list(own) for name, own in atoms.items()}
        for source, given, found in keys:
            for name, own in atoms.items():
                if set(given) <= set(own) and found not in own:
                    own.append(found)
                    rows[name] = [{**row, found: one[found]} for row in rows[name] for one in
                                  [one for one in passed[source] if all(one[at] == row[at] for at in given)][:1]]
    return ({name: tuple(own) for name, own in atoms.items()},
            {name: tuple(tuple(row[column] for column in atoms[name]) for row in own) for name, own in rows.items()})


def keyed_cases(many, *, seed):
    """Small queries, tables of them, and keys that hold there."""
    chance = random.Random(seed)
    found = []
    while len(found) < many:
        query = random_query(chance, 5, 5)
        tables = random_tables(chance, query, most_rows=chance.choice((3, 6, 9)), values=chance.choice((2, 3)))
        keys = [key for key in all_keys(query) if holds_by_words(query, tables, key)]
        if keys:
            found.append((query, tables, tuple(chance.choices(keys, k=chance.randint(0, 3)))))
    return found


class Keys(Case):
    def test_is_key(self):
        self.assertEqual([is_key(FAR, KEY), is_key(FAR, ("s", (), "z")), is_key(FAR, ("s", ("y",), "z"))], [True] * 3)
        for value in (*WRONG_KEYS, *odd_values()):
            self.assertIs(is_key(FAR, value), False)

    def test_given_columns_are_ascending(self):
        query = Query((), r=("c", "a", "b"))
        self.assertEqual([is_key(query, ("r", given, "b")) for given in (("a", "c"), ("c", "a"), (), ("a", "b", "c"))],
                         [True, False, True, False])
        self.assertEqual(len([value for value in itertools.product("r", itertools.permutations("abc", 2), "abc")
                              if is_key(query, value)]), 3)

    def test_all_triples(self):
        for query in (FAR, PAIRS, Query((), r=("c", "a", "b"), s=("d", "a"))):
            names = [*query.columns, "z", "x"]
            givens = [given for size in range(4) for given in itertools.product(names, repeat=size)]
            found = [value for value in itertools.product([*query.atoms, "q"], givens, names) if is_key(query, value)]
            self.assertEqual(sorted(set(found)), sorted(all_keys(query)))

    def test_holds(self):
        self.assertEqual([holds_key(TRIO, ROWS, KEY), holds_key(TRIO, FEW, KEY),
                          holds_key(TRIO, {"r": (), "s": ()}, KEY)],
                         [False, True, True])
        self.assertEqual([holds_key(FAR, FEW, ("r", (), "z")), holds_key(FAR, {"r": ((1, 5), (2, 5)), "s": ()}, (
            "r", (), "z")), holds_key(FAR, ROWS, ("r", ("z",), "x")), holds_key(FAR, ROWS, ("s", ("y",), "z"))],
                         [False, True, False, False])

    def test_holds_by_words(self):
        chance, seen = random.Random(1500), {True: 0, False: 0}
        for _ in range(200):
            query = random_query(chance, 5, 4)
            tables = random_tables(chance, query, most_rows=4)
            for key in all_keys(query):
                right = holds_by_words(query, tables, key)
                self.assertIs(holds_key(query, tables, key), right)
                seen[right] += 1
        self.assertGreater(min(seen.values()), 200)


class Grown(Case):
    def test_ordinary(self):
        self.assertEqual([grown(TRIO, (KEY,)), grown(BRIDGE, (KEY,)), grown(TRIO, ())], [FAR, FAR, TRIO])
        self.assertEqual(grown(FAR, (("s", ("z",), "y"),)).atoms, {"r": ("x", "z", "y"), "s": ("z", "y")})
        self.assertEqual(grown(FAR, (("s", ("z",), "y"),)).shown, ("x", "z", "y"))

    def test_no_given_columns(self):
        query = grown(PAIRS, (("r", (), "d"), ("q", (), "b")))
        self.assertEqual([query.shown, query.down, query.atoms], [("b", "d", "a", "c"), ("b",), {
            "p": ("a", "b", "d"), "q": ("b", "c", "d"), "r": ("c", "d", "b"), "s": ("d", "a", "b")}])
        self.assertEqual(grown(FAR.with_shown(), (("r", (), "x"),)).shown, ("x",))

    def test_keys_that_are_gone_through_again(self):
        # The first key can add something only when the others have been gone through.
        keys = (("r", ("c",), "d"), ("q", ("b",), "c"), ("p", ("a",), "b"))
        query = grown(PAIRS, keys)
        self.assertEqual(query.atoms, {"p": ("a", "b", "c", "d"), "q": ("b", "c", "d"), "r": ("c", "d"),
                                       "s": ("d", "a", "b", "c")})
        self.assertEqual(query.shown, ("a", "b", "c", "d"))
        self.assertEqual(grown(PAIRS, keys[::-1]).atoms["p"], ("a", "b", "c", "d"))
        far = Query(("a",), p=("a", "b"), q=("b", "c"), r=("c", "d"))
        self.assertEqual(grown(far, keys).atoms["p"], ("a", "b", "c", "d"))
        self.assertEqual(grown(far, keys).shown, ("a", "b", "c", "d"))

    def test_keys_in_a_circle_and_more_than_needed(self):
        keys = (("r", ("x",), "z"), ("r", ("z",), "x"), ("r", ("x",), "z"), ("s", ("z",), "y"), ("s", ("y",), "z"))
        query = grown(TRIO.with_shown("y", "x", down=("x", "y")), keys)
        self.assertEqual([query.shown, query.down, query.atoms], [("y", "x", "z"), ("x", "y"), {
            "r": ("x", "z", "y"), "s": ("z", "y", "x")}])

    def test_directly_behind_and_ascending(self):
        query = Query(("b", "a"), p=("b", "y", "x"), q=("a", "c"))
        keys = (("p", ("b",), "y"), ("p", ("y",), "x"), ("q", ("a",), "c"))
        self.assertEqual(grown(query, keys).shown, ("b", "x", "y", "a", "c"))
        self.assertEqual(grown(query.with_shown("a", "b"), keys).shown, ("a", "c", "b", "x", "y"))
        both = Query(("a", "b"), p=("a", "b", "z"))
        self.assertEqual(grown(both, (("p", ("a", "b"), "z"),)).shown, ("a", "b", "z"))
        self.assertEqual(grown(Query(("a", "b", "c"), down=("c",), p=("a", "b", "c")), (("p", ("a",), "c"),)).shown,
                         ("a", "c", "b"))

    def test_by_words(self):
        changed = 0
        for query, tables, keys in keyed_cases(400, seed=1501):
            larger = grown(query, keys)
            atoms, rows = growth_by_words(query, tables, keys)
            self.assertEqual([larger.atoms, larger.shown], [atoms, shown_by_words(query, keys)])
            self.assertEqual(larger.down, query.down)
            self.assertEqual(list(grown_tables(query, tables, keys).items()), list(rows.items()))
            self.assertTrue(all(is_key(larger, key) for key in keys))
            self.assertEqual(grown(larger, keys), larger)
            changed += larger != query
        self.assertGreater(changed, 100)

    def test_ten_columns(self):
        columns = LETTERS[:10]
        query = Query.of(columns[::-1], {"t" + one: (one, other) for one, other in zip(columns, columns[1:])})
        keys = tuple(("t" + one, (one,), other) for one, other in zip(columns, columns[1:]))
        self.assertEqual([grown(query, keys).atoms["ta"], grown(query, keys[::-1]).atoms["ta"]], [columns, columns])
        self.assertEqual(grown(query.with_shown("a"), keys).shown, columns)


class Tables(Case):
    def test_rows_get_what_the_key_tells(self):
        self.assertEqual(grown_tables(TRIO, FEW, (KEY,)), FEW)
        tables = {"r": ((1, 1), (1, 2), (2, 2)), "s": ((1, 5), (2, 6))}
        self.assertEqual(grown_tables(FAR, tables, (("s", ("z",), "y"),)),
                         {"r": ((1, 1, 5), (1, 2, 6), (2, 2, 6)), "s": tables["s"]})

    def test_rows_without_a_fitting_one_are_left_out(self):
        tables = {"s": ((2, 6), (3, 7)), "r": ((1, 1), (1, 2), (2, 2))}
        self.assertEqual(list(grown_tables(FAR, tables, (("s", ("z",), "y"),)).items()),
                         [("r", ((1, 2, 6), (2, 2, 6))), ("s", tables["s"])])
        self.assertEqual(grown_tables(FAR, {"r": tables["r"], "s": ()}, (("s", ("z",), "y"),))["r"], ())
        self.assertEqual(grown_tables(FAR, {"r": tables["r"], "s": ()}, (("s", (), "y"),)), {"r": (), "s": ()})

    def test_without_given_columns(self):
        self.assertEqual(grown_tables(FAR, {"r": ((1, 1),), "s": ((1, 6), (2, 6))}, (("s", (), "y"),)),
                         {"r": ((1, 1, 6),), "s": ((1, 6), (2, 6))})

    def test_given_columns_in_another_order(self):
        query = Query(("a", "b", "c"), p=("c", "b", "a"), q=("b", "d", "a"))
        tables = {"p": ((7, 1, 2), (8, 2, 1)), "q": ((1, 0, 2), (2, 0, 1), (2, 0, 2))}
        self.assertEqual(grown_tables(query, tables, (("p", ("a", "b"), "c"),))["q"], ((1, 0, 2, 7), (2, 0, 1, 8)))

    def test_passed_rows_tell_even_if_they_are_left_out(self):
        query = Query(("a",), p=("a", "b", "e"), q=("e", "c"), r=("a", "z"))
        tables = {"p": ((1, 1, 5), (2, 2, 9)), "q": ((5, 7),), "r": ((1, 0), (2, 0), (3, 0))}
        for keys in ((("q", ("e",), "c"), ("p", ("a",), "b")), (("p", ("a",), "b"), ("q", ("e",), "c"))):
            self.assertEqual(grown_tables(query, tables, keys),
                             {"p": ((1, 1, 5, 7),), "q": ((5, 7),), "r": ((1, 0, 1), (2, 0, 2))})

    def test_nothing_is_changed(self):
        tables = {"s": ((2, 6), (3, 7)), "r": ((1, 2),)}
        grown_tables(FAR, tables, (("s", ("z",), "y"),)).clear()
        self.assertEqual([list(tables.items()), FAR.atom("r")], [
                         [("s", ((2, 6), (3, 7))), ("r", ((1, 2),))], ("x", "z")])


class Parts(Case):
    def test_shown_part(self):
        self.assertEqual([shown_part(BRIDGE, (2, 2, 6), (KEY,)), shown_part(TRIO, (1, 2, 3), (KEY,)),
                          shown_part(FAR.with_shown(), (7,), (("r", (), "x"),)), shown_part(FAR.with_shown(), (), ())],
                         [(2, 6), (1, 3, 2), (), ()])
        self.assertEqual(shown_part(PAIRS, (1, BIG, 3, -BIG), (("r", (), "d"),)), (BIG, 3, -BIG))

    def test_positions_stay(self):
        many = 0
        for query, tables, keys in keyed_cases(800, seed=1502):
            larger = grown(query, keys)
            rows = list(answers(larger, grown_tables(query, tables, keys)))
            self.assertEqual([shown_part(query, row, keys) for row in rows], list(answers(query, tables)))
            many += bool(rows) and larger != query
        self.assertGreater(many, 80)


class Errors(Case):
    def test_wrong_queries_and_tables(self):
        for query in odd_except(lambda one: isinstance(one, Query)):
            self.fails(InvalidQuery, is_key, query, None)
            self.fails(InvalidQuery, grown, query, None)
            self.fails(InvalidQuery, shown_part, query, None, None)
            for function in (holds_key, grown_tables, KeyedPages):
                self.fails(InvalidQuery, function, query, None, None)
        for tables in odd_except(lambda one: one == ROWS):
            for function in (holds_key, grown_tables, KeyedPages):
                self.fails(InvalidTables, function, FAR, tables, None)

    def test_wrong_keys(self):
        for key in (*WRONG_KEYS, *odd_values()):
            self.fails(InvalidKey, holds_key, FAR, ROWS, key)
            for keys in ((key,), (("s", ("z",), "y"), key)):
                self.fails(InvalidKey, grown, FAR, keys)
                self.fails(InvalidKey, shown_part, FAR, None, keys)
                for function in (grown_tables, KeyedPages):
                    self.fails(InvalidKey, function, FAR, ROWS, keys)
                    self.fails(InvalidKey, function, RING, {name: () for name in RING.atoms}, keys)
        for keys in (KEY, [KEY], {KEY: KEY}, *odd_except(lambda one: one == () and one != {})):
            self.fails(InvalidKey, grown, FAR, keys)
            self.fails(InvalidKey, shown_part, FAR, (1, 2, 3), keys)
            self.fails(InvalidKey, grown_tables, FAR, ROWS, keys)
            self.fails(InvalidKey, KeyedPages, FAR, ROWS, keys)

    def test_keys_that_do_not_hold(self):
        for keys in ((KEY,), (("s", ("z", ), "y"),), (("r", (), "x"), ("s", ("z",), "y"))):
            self.fails(InvalidKey, grown_tables, FAR, ROWS, keys)
            self.fails(InvalidKey, KeyedPages, FAR, ROWS, keys)
            # Ahead of the witness that the grown query still has.
            query = Query(("x", "y"), r=("x", "z"), s=("z", "y"), t=("y", "w"), u=("w", "x"))
            self.fails(InvalidKey, KeyedPages, query, {**ROWS, "t": (), "u": ()}, keys)
        self.assertEqual(grown(TRIO, (KEY,)), FAR)

    def test_wrong_rows(self):
        for row in ((1, 2), (1, 2, 3, 4), (1, 2, True), [1, 2, 3], *odd_values()):
            self.fails(InvalidRow, shown_part, BRIDGE, row, (KEY,))
        self.fails(InvalidRow, shown_part, BRIDGE, (1, 2, 3), ())

    def test_unsorted(self):
        for query, keys in ((TRIO, ()), (BRIDGE, ()), (TRIO, (("s", ("y",), "z"),)), (SHELL, ()),
                            (RING, (("p", ("a",), "b"),))):
            tables = {name: () for name in query.atoms}
            found = self.fails(Unsorted, KeyedPages, query, tables, keys).witness
            self.assertTrue(is_witness(grown(query, keys), found))
        self.assertEqual(KeyedPages(TRIO, {"r": (), "s": ()}, (KEY,)).total, 0)


class PagesByKeys(Case):
    def test_ordinary(self):
        pages = KeyedPages(TRIO, FEW, (KEY,))
        self.assertEqual([pages.total, pages[1], pages.position_of((2, 6, 0))], [3, (2, 5, 2), 2])
        self.assertEqual([pages.query, pages.tables, pages.grown == Pages(FAR, FEW)], [TRIO, FEW, True])
        self.assertEqual(list(pages.page(0)), list(answers(TRIO, FEW)))
        self.assertEqual([pages.page(1, size=2), pages.page(2, size=2), pages.span(), pages.span((2,)),
                          pages.span((2, 6)),
                          pages.span((0,)), pages.span((3,)), pages.span((2, 5, 3))],
                         [((2, 6, 2),), (), (0, 3), (1, 3), (2, 3), (0, 0), (3, 3), (2, 2)])
        self.assertEqual([pages.after((1, 5, 1)), pages.after((2, 6, 2)), pages.ahead_of((1, 5, 1)),
                          pages.ahead_of((9, 9, 9))],
                         [(2, 5, 2), None, None, (2, 6, 2)])

    def test_columns_that_are_sorted_down(self):
        query = TRIO.with_shown("x", "y", "z", down=("x", "z"))
        pages = KeyedPages(query, FEW, (KEY,))
        self.assertEqual([pages[at] for at in range(3)], [(2, 5, 2), (2, 6, 2), (1, 5, 1)])
        self.assertEqual([pages.position_of((2, 5, 3)), pages.position_of((2, 5, 1)), pages.position_of((0, 0, 0)),
                          pages.span((2,)), pages.after((2, 7, 0)), pages.ahead_of((1, 9, 9))],
                         [0, 1, 3, (0, 2), (1, 5, 1), (1, 5, 1)])

    def test_hidden_columns_and_none_shown(self):
        pages = KeyedPages(BRIDGE, FEW, (KEY,))
        self.assertEqual([list(pages.page(0)), (1, 5) in pages, (1, 5, 1) in pages, pages.grown[0]],
                         [[(1, 5), (2, 5), (2, 6)], True, False, (1, 1, 5)])
        one = KeyedPages(FAR.with_shown(), ROWS, ())
        self.assertEqual([one.total, one[0], () in one, one.span(()), one.position_of(()), one.after(()), one.page(0)],
                         [1, (), True, (0, 1), 0, None, ((),)])
        none = KeyedPages(FAR.with_shown(), {"r": (), "s": ()}, (("r", (), "x"),))
        self.assertEqual([none.total, () in none, none.span(), none.ahead_of(())], [0, False, (0, 0), None])

    def test_a_ring_that_a_key_opens(self):
        keys = (("p", ("a",), "b"),)
        self.assertIsNone(good_order(RING.with_shown("a")))
        query = RING.with_shown("a").with_atom("r", "c", "d", "a")
        tables = {"p": ((0, 1), (1, 0)), "q": ((0, 5), (1, 6)), "r": ((5, 1, 1), (6, 1, 0)), "s": ((1, 0), (1, 1))}
        self.assertIsNone(good_order(query))
        self.assertEqual(list(KeyedPages(query, tables, keys).page(0)), list(answers(query, tables)))

    def test_more_than_could_be_listed(self):
        # Ten columns: every shown one decides the hidden one beside it, which is shown by the key.
        query = Query(("a", "c", "e", "g", "i"), p=("a", "b"), q=("c", "d"), r=("e", "f"), s=("g", "h"), t=("i", "j"),
                      u=("b", "c", "d"), v=("b", "e"))
        rows = tuple((number, number % 3) for number in range(1000))
        tables = {name: rows for name in "pqrst"}
        tables["u"] = tuple(sorted((number % 3, number, number % 3) for number in range(999)))
        tables["v"] = tuple(sorted((number % 3, number) for number in range(999)))
        keys = tuple((name, (given,), found) for name, given, found in ("pab", "qcd", "ref", "sgh", "tij"))
        self.assertIsNone(good_order(query))
        pages = KeyedPages(query, tables, keys)
        self.assertEqual(pages.total, 1000 * 333 * 333 * 1000 * 1000)
        middle = pages[pages.total // 2]
        self.assertEqual([pages.position_of(middle), middle in pages, pages.after(pages[10 ** 12])],
                         [pages.total // 2, True, pages[10 ** 12 + 1]])
        first, behind = pages.span(middle[:2])
        self.assertEqual([pages.position_of((*middle[:2], -1, 0, 0)), pages[behind - 1][:2],
                          pages[behind][:2] == middle[:2]],
                         [first, middle[:2], False])

    def test_by_the_list_of_all_answers(self):
        many = 0
        for query, tables, keys in keyed_cases(900, seed=1503):
            larger = grown(query, keys)
            if good_order(larger) is None:
                continue
            rows, pages = list(answers(query, tables)), KeyedPages(query, tables, keys)
            self.check(query, pages, rows)
            self.assertEqual([pages.total, pages.query, list(pages.tables.items())],
                             [len(rows), query, list(tables.items())])
            self.assertTrue(pages.grown == Pages(larger, grown_tables(query, tables, keys)))
            many += larger != query and bool(rows) and good_order(query) is None
        self.assertGreater(many, 20)

    def check(self, query, pages, rows):
        signs = [-1 if column in query.down else 1 for column in query.shown]

        def place(row):
            return tuple(sign * number for sign, number in zip(signs, row))

        self.assertEqual([pages[at] for at in range(len(rows))], rows)
        for size in range(len(query.shown) + 1):
            for values in itertools.islice(itertools.product((1, 0, 2), repeat=size), 15):
                first = len([row for row in rows if place(row)[:size] < place(values)])
                some = len([row for row in rows if row[:size] == values])
                self.assertEqual(pages.span(values), (first, first + some))
                if size == len(query.shown):
                    behind = [row for row in rows if place(row) > place(values)]
                    self.assertEqual([pages.position_of(values), values in pages, pages.after(values),
                                      pages.ahead_of(values)],
                                     [first, values in rows, behind[0] if behind else None,
                                      rows[first - 1] if first else None])
        for number, size in ((0, 1), (1, 2), (2, 3), (0, 1000), (9, 9)):
            self.assertEqual(pages.page(number, size=size), tuple(rows[number * size:number * size + size]))

    def test_equality(self):
        pages = KeyedPages(TRIO, FEW, (KEY,))
        self.assertTrue(pages == KeyedPages(TRIO, FEW, (KEY, KEY)) and not pages != KeyedPages(TRIO, FEW, (KEY, KEY)))
        self.assertTrue(KeyedPages(FAR, FEW, ()) == KeyedPages(FAR, FEW, (KEY,)))
        for other in (KeyedPages(BRIDGE, FEW, (KEY,)), KeyedPages(TRIO, {**FEW, "s": ()}, (KEY,)), pages.grown,
                      KeyedPages(TRIO.with_shown("x", "y", "z", down=("x",)), FEW, (KEY,)), *odd_values()):
            self.assertTrue(pages != other and not pages == other)
        self.assertFalse(isinstance(pages, Pages))
        self.assertFalse(Pages(FAR, FEW) == KeyedPages(FAR, FEW, ()))

    def test_it_never_changes_and_is_not_iterated(self):
        tables = {"s": FEW["s"], "r": FEW["r"]}
        pages = KeyedPages(TRIO, tables, (KEY,))
        tables.clear()
        pages.tables.clear()
        self.assertEqual([list(pages.tables), pages.tables, pages.total], [["r", "s"], FEW, 3])
        for call in (iter, list, lambda one: [*one]):
            self.fails(TypeError, call, pages)

    def test_wrong_arguments(self):
        pages = KeyedPages(TRIO, FEW, (KEY,))
        for position in (3, -1, BIG, *odd_except(lambda one: is_whole(one) and 0 <= one < 3)):
            self.keeps(InvalidNumber, "value", position, pages.__getitem__, position)
        for row in ((1, 2), (1, 2, 3, 4), (1, 2, True), [1, 2, 3], *odd_values()):
            for method in (pages.position_of, pages.after, pages.ahead_of):
                self.fails(InvalidRow, method, row)
            self.assertFalse(row in pages)
        for values in ((1, 2, 3, 4), (True,),
                       *odd_except(lambda one: isinstance(one, tuple) and all(map(is_whole, one)))):
            self.fails(InvalidRow, pages.span, values)
        for number in (-1, *odd_except(lambda one: is_whole(one) and one >= 0)):
            self.keeps(InvalidNumber, "value", number, pages.page, number, size=0)
        for size in (0, 1001, *odd_except(lambda one: is_whole(one) and 1 <= one <= 1000)):
            self.keeps(InvalidNumber, "value", size, pages.page, 0, size=size)
        self.assertEqual([len(pages.page(0, size=1000)), pages.page(BIG)], [3, ()])
        many = KeyedPages(Query(("x",), r=("x",)), {"r": tuple((number,) for number in range(25))}, ())
        self.assertEqual([many.page(0), many.page(2)], [tuple((number,) for number in range(10)),
                                                        tuple((number,) for number in range(20, 25))])


if __name__ == "__main__":
    unittest.main()
