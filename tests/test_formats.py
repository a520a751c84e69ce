"""Texts of queries, rows, tables, orders, papers and keys: [0.1], [0.4], [17.1] to [17.4]."""

import random
import unittest

from pagewise.errors import (InvalidKey, InvalidOperation, InvalidOrder,
                             InvalidQuery, InvalidRow, InvalidTables, ParseError)
from pagewise.keys.keys import is_key
from pagewise.orders.good import good_orders, is_good, order_paper
from pagewise.queries.queries import Query
from pagewise.shapes.witnesses import witnesses
from pagewise.text.formats import (format_key, format_order, format_paper, format_query, format_row, format_tables,
                                   parse_key, parse_order, parse_paper, parse_query, parse_row, parse_tables)
from tests.cases import (BIG, BRIDGE, FAR, LETTERS, RING, ROWS, SHELL, TRIO, Case, is_whole, odd_except, odd_values,
                         random_queries, random_tables)
from tests.test_keys import WRONG_KEYS, all_keys

FAR_TEXT = "x, z, y from r(x, z), s(z, y)"
ROWS_TEXT = "r 1 1\nr 1 2\nr 2 2\ns 1 5\ns 2 5\ns 2 6"
# Signs that Python takes for digits, letters, blanks or line ends somewhere, and no text has.
ODD_SIGNS = ("\u0663", "\u00b2", "\uff11", "\u00e9", "\u00df", "\u00a0",
             "\u2028", "\r", "\t", "\f", "\x1c", "\x85", "_", "A", "+")
WORDS = Query(("from", "desc"), down=("desc",), where=(
    "from", "desc", "limit"), select=("limit",), desc=("and", "from"))
# A name of eight letters and of one, and all that a query can have.
WIDE = Query.of(LETTERS[:10], {"abcdefg" + one: LETTERS[:10][::-1] for one in LETTERS[:10]}, down=LETTERS[:10])


def text_of_query(query):
    """The text, by the words of the document."""
    shown = [column + (" desc" if column in query.down else "") for column in query.shown]
    atoms = [name + "(" + ", ".join(own) + ")" for name, own in sorted(query.atoms.items())]
    return (", ".join(shown) if shown else "-") + " from " + ", ".join(atoms)


def text_of_tables(tables):
    return "\n".join(" ".join([name, *map(str, row)]) for name in sorted(tables) for row in sorted(tables[name]))


def text_of_key(key):
    return key[0] + ": " + "".join(column + " " for column in key[1]) + "-> " + key[2]


def altered(text):
    """Texts with one sign less, one sign more, another sign, or two signs exchanged."""
    signs = (" ", "\n", ",", "(", ")", "-", "0", "1", "x", ">", ":", *ODD_SIGNS)
    for at in range(len(text) + 1):
        yield from (text[:at] + sign + text[at:] for sign in signs)
        if at < len(text):
            yield text[:at] + text[at + 1:]
            yield text[:at] + text[at:at + 1] * 2 + text[at + 1:]
            yield from (text[:at] + sign + text[at + 1:] for sign in signs)
            yield text[:at] + text[at + 1:at + 2] + text[at:at + 1] + text[at + 2:]


class Formats(Case):
    def reads(self, text, parse, write, value):
        """The text is that of the value, and other texts near it are those of other values, or of none."""
        self.assertEqual([write(value), parse(text)], [text, value])
        self.assertIs(type(parse(text)), type(value))
        accepted = 0
        for other in altered(text):
            try:
                found = parse(other)
            except ParseError as error:
                self.assertIs(type(error), ParseError)
            else:
                self.assertEqual(write(found), other)
                self.assertEqual(found == value, other == text)
                accepted += 1
        return accepted

    def refuses(self, parse, *texts):
        for text in (*texts, *odd_except(lambda one: isinstance(one, str)), b"x", [texts[0]], (texts[0],)):
            self.fails(ParseError, parse, text)


class Queries(Formats):
    def test_the_examples(self):
        self.assertEqual([format_query(FAR), format_query(~BRIDGE), format_query(FAR.with_shown())],
                         [FAR_TEXT, "x desc, y desc from r(x, z), s(z, y)", "- from r(x, z), s(z, y)"])
        self.assertEqual(parse_query("a from p(a, b), q(b)"), Query(("a",), p=("a", "b"), q=("b",)))

    def test_directions(self):
        query = FAR.with_shown("y", "x", "z", down=("x",))
        self.assertEqual([format_query(query), parse_query("y, x desc, z from r(x, z), s(z, y)")],
                         ["y, x desc, z from r(x, z), s(z, y)", query])

    def test_words_that_are_names(self):
        text = "from, desc desc from desc(and, from), select(limit), where(from, desc, limit)"
        self.assertEqual([format_query(WORDS), parse_query(text)], [text, WORDS])
        for text, query in (("from from from(from)", Query(("from",), **{"from": ("from",)})),
                            ("desc from desc(desc)", Query(("desc",), desc=("desc",))),
                            ("desc desc from from(desc)", Query(("desc",), down=("desc",), **{"from": ("desc",)})),
                            ("from desc from x(from)", Query(("from",), down=("from",), x=("from",))),
                            ("x, from from from(x, from)", Query(("x", "from"), **{"from": ("x", "from")})),
                            ("- from from(from)", Query((), **{"from": ("from",)}))):
            self.assertEqual([parse_query(text), format_query(query)], [query, text])

    def test_near_texts(self):
        self.assertGreater(self.reads(FAR_TEXT, parse_query, format_query, FAR), 10)
        for query in (WORDS, ~FAR, FAR.with_shown(), RING, Query(("abcdefgh",), abcdefgh=("abcdefgh",))):
            self.reads(format_query(query), parse_query, format_query, query)

    def test_by_words(self):
        for query in (*random_queries(300, seed=1700, most_columns=8, most_atoms=8), WIDE, SHELL, TRIO):
            self.assertEqual([format_query(query), parse_query(text_of_query(query))], [text_of_query(query), query])

    def test_other_texts(self):
        self.refuses(parse_query, "", "x", "from", " from ", "x from", "x from ", " from r(x)", "x from r",
                     "x from r()",
                     "x from r(x", "x from r x)", "x from r((x)", "x from r(x))", "x from (x)", "x from r(x),",
                     "x from r(x), ",
                     "x from r(x),s(x)", "x from r(x) s(x)", "x from r(x,z)", "x from r(x , z)", "x,z from r(x, z)",
                     "x  from r(x)", "x from  r(x)", " x from r(x)", "x from r(x) ", "x from r(x)\n", "\nx from r(x)",
                     "x from r (x)", "x from r( x)", "x from r(x )", "x from s(x), r(x)", "x from r(x), r(x)",
                     "x from r(x), r(z)", "x, x from r(x)", "x from r(x, x)", "y from r(x)", "x asc from r(x)",
                     "x desc desc from r(x)", "desc from r(x)", "X from r(X)", "x from R(x)",
                     "ninechars from r(ninechars)",
                     "x from ninechars(x)", "x1 from r(x1)", "- from", "-, x from r(x)", "- desc from r(x)",
                     "x FROM r(x)",
                     "x from r(x) from s(x)", "-from r(x)", ", from r(x)", "x, from r(x)", "query of 1 atoms",
                     "x\nfrom r(x)")

    def test_ten_atoms_and_columns(self):
        text = text_of_query(WIDE)
        self.assertEqual(parse_query(text), WIDE)
        self.refuses(parse_query, text + ", k(a)", text[:-1] + ", k)", "- from r(" + ", ".join(LETTERS[:11]) + ")",
                     "- from " + ", ".join(one + "(x)" for one in LETTERS[:11]))
        self.assertEqual(len(parse_query("- from r(" + ", ".join(LETTERS[:10]) + ")")), 10)

    def test_errors(self):
        for query in odd_except(lambda one: isinstance(one, Query)):
            self.fails(InvalidQuery, format_query, query)


class Rows(Formats):
    def test_ordinary(self):
        for row, text in (((0, -12), "0 -12"), ((), "()"), ((7,), "7"), ((BIG, -BIG), f"{BIG} -{BIG}"),
                          (tuple(range(10)), "0 1 2 3 4 5 6 7 8 9"), ((10, 100, -1), "10 100 -1")):
            self.reads(text, parse_row, format_row, row)

    def test_other_texts(self):
        self.refuses(parse_row, "", " ", "1 ", " 1", "1  2", "1\n", "1\n2", "\n", "-0", "+1", "01", "-01", "--1", "-",
                     "1-", "1 -",
                     "()()", "() 1", "1 ()", "( )", "1.0", "1q", "1_0", "1e3", "0x1", "one", "None", "1,2", "1, 2",
                     "(1)", "(1, 2)",
                     "1\t2", "0 1 2 3 4 5 6 7 8 9 10", str(BIG + 1), str(-BIG - 1), "0" * 5000, "9" * 5000, "00", "- 1",
                     *[f"1{sign}" for sign in ODD_SIGNS], *[sign for sign in ODD_SIGNS],
                     *[f"{sign}1" for sign in ODD_SIGNS])
        self.assertEqual(parse_row(str(-BIG)), (-BIG,))

    def test_errors(self):
        for row in (tuple(range(11)), (1, True), (None,), [1, 2], *odd_except(
                lambda one: isinstance(one, tuple) and len(one) <= 10 and all(map(is_whole, one)))):
            self.fails(InvalidRow, format_row, row)


class Tables(Formats):
    def test_the_examples(self):
        self.assertEqual([format_tables(FAR, ROWS), parse_tables(FAR, "s 1 -5")],
                         [ROWS_TEXT, {"r": (), "s": ((1, -5),)}])
        self.assertEqual(list(parse_tables(FAR, "s 1 -5").items()), [("r", ()), ("s", ((1, -5),))])

    def test_without_rows(self):
        self.assertEqual([format_tables(FAR, {"s": (), "r": ()}), parse_tables(FAR, "")], ["", {"r": (), "s": ()}])
        self.fails(ParseError, parse_tables, FAR, "\n")

    def test_the_order_of_the_keys_does_not_matter(self):
        self.assertEqual(format_tables(FAR, {"s": ROWS["s"], "r": ROWS["r"]}), ROWS_TEXT)

    def test_near_texts(self):
        for query, tables in ((FAR, {"r": ((-1, 10),), "s": ((0, 5), (2, 5))}), (TRIO, {"r": (), "s": ((-BIG, BIG),)}),
                              (Query((), r=("x",), rr=("x", "y")), {"r": ((2,), (10,)), "rr": ((-2, 0), (-1, 0))})):
            self.reads(format_tables(query, tables), lambda text, query=query: parse_tables(query, text),
                       lambda value, query=query: format_tables(query, value), tables)

    def test_by_words(self):
        chance = random.Random(1701)
        for query in random_queries(150, seed=1702):
            tables = random_tables(chance, query, most_rows=6)
            self.assertEqual([format_tables(query, tables), parse_tables(query, text_of_tables(tables))],
                             [text_of_tables(tables), tables])

    def test_other_texts(self):
        self.refuses(lambda text: parse_tables(FAR, text), "r 1 1\n", "\nr 1 1", "r 1 1\n\nr 1 2", "r 1 1\r\nr 1 2",
                     "r 1 2\nr 1 1",
                     "r 1 1\nr 1 1", "s 1 5\nr 1 1", "r 1", "r 1 1 1", "r", "r ", "r ()", "r  1 1", " r 1 1", "r 1 1 ",
                     "q 1 1",
                     "x 1 1", "r 1 -0", "r 01 1", "r +1 1", "r 1 1; r 1 2", "r 1 1 r 1 2", "R 1 1", " ", "()", "-",
                     "r: 1 1",
                     "r 1 one", f"r 1 {BIG + 1}", "s 1 5\ns 2 5\nr 1 1", "r 10 1\nr 9 1")
        self.assertEqual(parse_tables(FAR, "r 9 1\nr 10 1")["r"], ((9, 1), (10, 1)))

    def test_a_thousand_rows(self):
        query = Query((), r=("x",))
        text = "\n".join(f"r {number}" for number in range(1000))
        self.assertEqual([len(parse_tables(query, text)["r"]), format_tables(
            query, parse_tables(query, text))], [1000, text])
        self.fails(ParseError, parse_tables, query, text + "\nr 1000")

    def test_errors(self):
        for query in odd_except(lambda one: isinstance(one, Query)):
            self.fails(InvalidQuery, format_tables, query, None)
            self.fails(InvalidQuery, parse_tables, query, None)
        for tables in ({"r": ((2, 1), (1, 1)), "s": ()}, {"r": ()}, *odd_except(lambda one: one == ROWS)):
            self.fails(InvalidTables, format_tables, FAR, tables)


class Orders(Formats):
    def test_near_texts(self):
        for query in (FAR, FAR.with_shown("z"), FAR.with_shown(), Query(("x",), r=("x",))):
            for order in good_orders(query):
                self.reads(" ".join(order), lambda text, query=query: parse_order(query, text),
                           lambda value, query=query: format_order(query, value), order)

    def test_other_texts(self):
        self.assertEqual([parse_order(FAR, "x z y"), format_order(FAR, ("x", "z", "y"))], [("x", "z", "y"), "x z y"])
        self.refuses(lambda text: parse_order(FAR, text), "", "x z", "z x y", "y z x", "x z y z", "x z  y", " x z y",
                     "x z y ",
                     "x, z, y", "x z y\n", "x\nz y", "xzy", "order x z y", "x y z", "X z y")
        self.refuses(lambda text: parse_order(TRIO, text), "x y z", "x z y")

    def test_errors(self):
        for query in odd_except(lambda one: isinstance(one, Query)):
            self.fails(InvalidQuery, format_order, query, None)
            self.fails(InvalidQuery, parse_order, query, None)
        for order in (("x", "y", "z"), ("x", "z"), ["x", "z", "y"], "x z y", *odd_values()):
            self.fails(InvalidOrder, format_order, FAR, order)
        self.fails(InvalidOrder, format_order, TRIO, ("x", "y", "z"))


class Papers(Formats):
    def test_near_texts(self):
        papers = [(FAR, ("order", ("x", "z", "y"))), (TRIO, ("trio", ("x", "y", "z"))),
                  (BRIDGE, ("bridge", ("y", "z", "x"))),
                  (BRIDGE, ("bridge", ("x", "z", "y"))), (RING, ("ring", ("c", "b", "a", "d"))),
                  (SHELL, ("shell", ("a", "b", "c")))]
        for query, paper in papers:
            text = paper[0] + " " + " ".join(paper[1])
            self.reads(text, lambda text, query=query: parse_paper(query, text),
                       lambda value, query=query: format_paper(query, value), paper)

    def test_by_words(self):
        many = 0
        for query in random_queries(200, seed=1703, most_columns=6):
            papers = [("order", order) for order in list(good_orders(query))[:5]] or list(witnesses(query))
            self.assertIn(order_paper(query)[0], {word for word, _ in papers})
            for word, columns in papers:
                text = " ".join([word, *columns])
                self.assertEqual([format_paper(query, (word, columns)),
                                 parse_paper(query, text)], [text, (word, columns)])
                many += word != "order"
        self.assertGreater(many, 80)

    def test_other_texts(self):
        self.refuses(lambda text: parse_paper(TRIO, text), "", "trio", "trio ", "trio x y", "trio y x z", "trio x z y",
                     "trio  x y z",
                     " trio x y z", "trio x y z ", "trio x y z\n", "trio, x, y, z", "Trio x y z", "bridge x z y",
                     "order x y z",
                     "order x z y", "x y z", "trio x y z z", "trio\nx y z", "trio (x, y, z)")
        self.refuses(lambda text: parse_paper(SHELL, text), "shell b a c", "ring a b c", "shell a b")
        self.refuses(lambda text: parse_paper(FAR, text), "x z y", "trio x y z", "order x y z", "order")

    def test_errors(self):
        for query in odd_except(lambda one: isinstance(one, Query)):
            self.fails(InvalidQuery, format_paper, query, None)
            self.fails(InvalidQuery, parse_paper, query, None)
        for paper in (("order", ("x", "z", "y")), ("trio", ("y", "x", "z")), ["trio", ("x", "y", "z")],
                      ("trio", ["x", "y", "z"]),
                      "trio x y z", ("bridge", ("x", "z", "y")), *odd_values()):
            self.fails(InvalidOperation, format_paper, TRIO, paper)


class Keys(Formats):
    def test_near_texts(self):
        query = Query((), r=("x", "z", "y"), s=("z",))
        for key in (("r", ("x", "z"), "y"), ("r", (), "y"), ("r", ("x",), "z")):
            self.reads(text_of_key(key), lambda text: parse_key(
                query, text), lambda value: format_key(query, value), key)
        self.assertEqual([format_key(query, ("r", ("x", "z"), "y")), format_key(query, ("r", (), "y")),
                          parse_key(FAR, "r: x -> z")],
                         ["r: x z -> y", "r: -> y", ("r", ("x",), "z")])

    def test_all_keys(self):
        for query in (*random_queries(40, seed=1704), WORDS):
            for key in all_keys(query):
                self.assertEqual([format_key(query, key), parse_key(query, text_of_key(key))], [text_of_key(key), key])

    def test_other_texts(self):
        query = Query((), r=("x", "z", "y"), s=("z",))
        texts = ["", "r", "r:", "r: ->", "r: x", "r: y", "r: x ->", "r: x y", "r: z x -> y", "r: x x -> y",
                 "r: x -> x", "r: -> w",
                 "s: x -> z", "q: x -> z", "r : x -> z", "r:x -> z", "r:: x -> z", "r x -> z", "r: x, z -> y",
                 "r: x->z",
                 "r:  -> y", "r: x  -> y", "r: x -> y ", " r: x -> y", "r: x -> y\n", "r: x => y", "r: x -> -> y",
                 "r: -> x y",
                 "-> y", "r: x -> z -> y", ": x -> z", "r: () -> y", "R: x -> z", "r:\nx -> z", "r: - > y"]
        self.refuses(lambda text: parse_key(query, text), *texts)
        self.assertTrue(is_key(query, parse_key(query, "r: x -> z")) and is_good(FAR, ("x", "z", "y")))

    def test_errors(self):
        for query in odd_except(lambda one: isinstance(one, Query)):
            self.fails(InvalidQuery, format_key, query, None)
            self.fails(InvalidQuery, parse_key, query, None)
        for key in (*WRONG_KEYS, "r: x -> z", *odd_values()):
            self.fails(InvalidKey, format_key, FAR, key)


if __name__ == "__main__":
    unittest.main()
