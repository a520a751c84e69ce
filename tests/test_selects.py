"""Selects: [0.2], [0.4], [0.7], [0.14], [17.1], [18.1] to [18.3]."""

import inspect
import itertools
import random
import unittest

from pagewise.errors import (InvalidNumber, InvalidOperation, InvalidQuery,
                             InvalidTables, ParseError, TooMany, Unsorted)
from pagewise.orders.good import good_order
from pagewise.queries.queries import Query
from pagewise.shapes.witnesses import is_witness
from pagewise.tables.answers import solutions
from pagewise.tables.tables import is_tables
from pagewise.text.formats import format_query
from pagewise.text.selects import Select
from tests.cases import (BIG, BRIDGE, FAR, LETTERS, RING, ROWS, SHELL, TRIO, Case, is_whole, odd_except, odd_values,
                         random_query, random_tables, wide_query, wide_tables)
from tests.test_formats import ODD_SIGNS, altered

EXAMPLE = "select x, y desc from r(x, z), s(z, y) where z = 2 limit 3"
LINE = Query(("a", "b", "c", "d"), p=("a", "b"), q=("b", "c"), r=("c", "d"))
LONG = Query(("x",), r=("x",))
WORDS = Query(("where", "and"), select=("where", "limit"), limit=("and", "offset"), **{"from": ("limit", "offset")})


def is_alike(pairs, first, second):
    """Whether two columns are equal by the pairs, also by several of them."""
    known = {first}
    for _ in pairs:
        known |= {column for pair in pairs if known & set(pair) for column in pair}
    return second in known


def list_by_words(query, tables, fixed, same):
    """The list of a select: sorted answers of the solutions with all equalities, each once."""
    rows = {tuple(one[column] for column in query.shown) for one in solutions(query, tables)
            if all(one[column] == number for column, number in fixed.items())
            and all(one[first] == one[second] for first, second in same)}
    return sorted(rows, key=lambda row: [-number if column in query.down else number
                                         for column, number in zip(query.shown, row)])


def compiled_by_words(query, fixed, same):
    def stands_for(column):
        alike = [other for other in query.columns if is_alike(same, column, other)]
        return None if any(other in fixed for other in alike) else min(alike)

    def replaced(columns):
        kept = [stands_for(column) for column in columns if stands_for(column)]
        return tuple(column for at, column in enumerate(kept) if column not in kept[:at])

    shown = replaced(query.shown)
    down = [column for column in shown
            if [one in query.down for one in query.shown if stands_for(one) == column][0]]
    atoms = {name: replaced(own) or (min(own),) for name, own in query.atoms.items()}
    return Query.of(shown, atoms, down=tuple(down))


def random_equalities(chance, query):
    """Equalities of columns of the query with integers and with one another; most do not contradict each other."""
    columns = query.columns
    same = tuple((chance.choice(columns), chance.choice(columns)) for _ in range(chance.choice((0, 0, 1, 1, 2, 3))))
    return {column: chance.randint(0, 1) for column in columns if not chance.randrange(4)}, same


def select_cases(many, *, seed):
    chance = random.Random(seed)
    while many:
        query = random_query(chance, 6, 5)
        tables = random_tables(chance, query, most_rows=9, values=2)
        fixed, same = random_equalities(chance, query)
        try:
            select = Select(query, fixed=fixed, same=same)
        except InvalidOperation:
            continue
        yield chance, query, tables, fixed, same, select
        many -= 1


class Ordinary(Case):
    def test_the_examples(self):
        some = Select.read(EXAMPLE)
        self.assertEqual([some.query, some(ROWS), some.total_for(ROWS)],
                         [Query(("x", "y"), down=("y",), r=("x",), s=("y",)), ((1, 6), (1, 5), (2, 6)), 4])
        self.assertEqual(str(Select(FAR, same=(("z", "y"), ("x", "z")), offset=1)),
                         "select x, z, y from r(x, z), s(z, y) where y = x and z = x offset 1")

    def test_nothing_is_asked(self):
        select = Select(FAR)
        self.assertEqual([select.written, select.query, select.fixed, select.same, select.size, select.offset],
                         [FAR, FAR, {}, {}, None, 0])
        self.assertEqual([select(ROWS), select.total_for(ROWS), select.tables_for(ROWS), str(select)],
                         [((1, 1, 5), (1, 2, 5), (1, 2, 6), (2, 2, 5), (2, 2, 6)), 5, ROWS,
                          f"select {format_query(FAR)}"])
        self.assertEqual(Select(FAR, fixed=None, same=(), size=None, offset=0), Select(FAR, fixed={}))

    def test_properties(self):
        select = Select(LINE, fixed={"c": 5}, same=(("d", "c"), ("b", "a"), ("b", "b")), size=7, offset=2)
        self.assertEqual([select.written, select.fixed, select.same, select.size, select.offset],
                         [LINE, {"c": 5, "d": 5}, {"b": "a"}, 7, 2])
        self.assertEqual([list(Select(LINE, fixed={"d": 1, "a": 2, "c": 3}).fixed.items()),
                          list(Select(LINE, same=(("d", "a"), ("c", "b"))).same.items())],
                         [[("a", 2), ("c", 3), ("d", 1)], [("c", "b"), ("d", "a")]])

    def test_equalities_in_a_circle_and_by_several(self):
        for same in ((("a", "b"), ("b", "c"), ("c", "a")), (("c", "b"), ("a", "c")),
                     (("c", "b"), ("b", "c"), ("b", "a"), ("a", "a")),
                     (("b", "a"), ("c", "a"), ("b", "a"))):
            select = Select(LINE, same=same)
            self.assertEqual([select.same, select.query], [{"b": "a", "c": "a"}, Query(
                ("a", "d"), p=("a",), q=("a",), r=("a", "d"))])
        self.assertEqual([Select(LINE, same=(("a", "a"),)).same, Select(LINE, same=(("a", "d"), ("c", "b"))).same],
                         [{}, {"c": "b", "d": "a"}])
        self.assertEqual(Select(LINE, same=(("a", "b"), ("c", "d"), ("b", "d"))).same, {"b": "a", "c": "a", "d": "a"})

    def test_fixed_by_others_that_are_alike(self):
        select = Select(LINE, fixed={"d": 3}, same=(("a", "b"), ("b", "d")))
        self.assertEqual([select.fixed, select.same, select.query],
                         [{"a": 3, "b": 3, "d": 3}, {}, Query(("c",), p=("a",), q=("c",), r=("c",))])
        self.assertEqual(Select(LINE, fixed={"a": 3, "b": 3}, same=(("b", "a"),)).fixed, {"a": 3, "b": 3})

    def test_atoms_of_which_all_columns_are_fixed(self):
        select = Select(FAR, fixed={"x": 1, "z": 2})
        self.assertEqual([select.query, select.tables_for(ROWS), select(ROWS)],
                         [Query(("y",), r=("x",), s=("y",)), {"r": ((1,),), "s": ((5,), (6,))}, ((1, 2, 5), (1, 2, 6))])
        every = Select(FAR, fixed={"x": 1, "z": 2, "y": 6})
        self.assertEqual([every.query, every.query.hidden, every.tables_for(ROWS), every(ROWS), every.total_for(ROWS)],
                         [Query((), r=("x",), s=("y",)), ("x", "y"), {"r": ((1,),), "s": ((6,),)}, ((1, 2, 6),), 1])
        none = Select(FAR, fixed={"x": 1, "z": 2, "y": 7})
        self.assertEqual([none.tables_for(ROWS), none(ROWS), none.total_for(ROWS)], [{"r": ((1,),), "s": ()}, (), 0])
        low = Select(Query((), p=("c", "b"), q=("b", "c", "a")), fixed={"b": 1, "c": 1, "a": 0})
        self.assertEqual([low.query.atoms, low.tables_for({"p": ((1, 1),), "q": ((1, 1, 0), (1, 1, 1))})],
                         [{"p": ("b",), "q": ("a",)}, {"p": ((1,),), "q": ((0,),)}])

    def test_directions_at_the_first_place(self):
        for down, right in ((("z",), ()), (("x",), ("x",)), (("x", "z"), ("x",)), (("y", "z"), ("y",))):
            select = Select(FAR.with_shown("x", "z", "y", down=down), same=(("z", "x"),))
            self.assertEqual([select.query.shown, select.query.down], [("x", "y"), right])
        select = Select(FAR.with_shown("z", "x", down=("z",)), same=(("z", "x"),))
        self.assertEqual([select.query.shown, select.query.down, select(ROWS)], [("x",), ("x",), ((2, 2), (1, 1))])
        hidden = Select(FAR.with_shown("z", "y", down=("y",)), same=(("x", "z"),))
        self.assertEqual([hidden.query, hidden(ROWS)], [Query(("x", "y"), down=("y",), r=("x",), s=("x", "y")),
                                                        ((1, 5), (2, 6), (2, 5))])

    def test_rows_that_fulfil_the_equalities(self):
        query = Query(("b", "a"), p=("b", "a", "c", "bx"), q=("c",))
        tables = {"p": ((0, 0, 1, 0), (0, 0, 1, 1), (0, 1, 1, 0), (1, 1, 1, 1), (1, 1, 2, 1)), "q": ((1,), (2,))}
        select = Select(query, fixed={"c": 1}, same=(("bx", "a"), ("a", "b")))
        self.assertEqual([select.query, select.tables_for(tables), select(tables)],
                         [Query(("a",), p=("a",), q=("c",)), {"p": ((0,), (1,)), "q": ((1,),)}, ((0, 0), (1, 1))])
        self.assertEqual(list(select.tables_for({"q": (), "p": ()}).items()), [("p", ()), ("q", ())])

    def test_a_good_order_by_equalities(self):
        for query, fixed, same in ((TRIO, {"z": 2}, ()), (TRIO, {"x": 1}, ()), (BRIDGE, {}, (("z", "x"),)),
                                   (BRIDGE, {"z": 1}, ()),
                                   (RING, {"a": 0}, ()), (RING, {}, (("a", "c"),)), (SHELL, {"b": 5}, ()),
                                   (SHELL, {}, (("a", "b"),))):
            tables = {name: tuple(itertools.product((0, 1, 2), (0, 1, 2, 5))) for name in query.atoms}
            select = Select(query, fixed=fixed, same=same)
            self.assertIsNone(good_order(query))
            self.assertIsNotNone(good_order(select.query))
            self.assertEqual(list(select(tables)), list_by_words(query, tables, fixed, same))

    def test_no_good_order_by_equalities(self):
        self.assertIsNotNone(good_order(LINE))
        select = Select(LINE, same=(("d", "a"),))
        tables = {name: () for name in LINE.atoms}
        self.assertEqual(select.query, Query(("a", "b", "c"), p=("a", "b"), q=("b", "c"), r=("c", "a")))
        for call in (select, select.total_for, lambda one: next(select.rows(one))):
            found = self.fails(Unsorted, call, tables).witness
            self.assertTrue(is_witness(select.query, found))
        self.assertEqual(select.tables_for(tables), tables)


class Ranges(Case):
    def test_sizes_and_offsets(self):
        every = Select(FAR)(ROWS)
        for size in (None, 0, 1, 2, 4, 5, 6, 1000):
            for offset in (0, 1, 4, 5, 6, BIG):
                select = Select(FAR, size=size, offset=offset)
                right = every[offset:] if size is None else every[offset:offset + size]
                self.assertEqual([select(ROWS), tuple(select.rows(ROWS)), select.total_for(ROWS)], [right, right, 5])

    def test_more_than_a_thousand(self):
        query, tables = wide_query(), wide_tables()
        for size, offset, right in ((1000, 0, 1000), (1000, 10 ** 30 - 3, 3), (None, 10 ** 30 - 1000, 1000),
                                    (None, 10 ** 30, 0)):
            self.assertEqual(len(Select(query, size=size, offset=offset)(tables)), right)
        for offset in (0, 10 ** 30 - 1001):
            select = Select(query, offset=offset)
            self.keeps(TooMany, "limit", 1000, select, tables)
            self.assertEqual([select.total_for(tables), len(
                list(itertools.islice(select.rows(tables), 1001)))], [10 ** 30, 1001])
        self.assertEqual(Select(query, fixed={"a": 7}, same=(("c", "b"),), size=2, offset=1)(tables),
                         ((7, 0, 0, 0, 0, 0, 0, 0, 0, 1), (7, 0, 0, 0, 0, 0, 0, 0, 0, 2)))

    def test_a_thousand_rows(self):
        tables = {"r": tuple((number,) for number in range(1000))}
        self.assertEqual([len(Select(LONG)(tables)), len(Select(LONG, size=1000)(tables)),
                          Select(LONG, offset=999)(tables)],
                         [1000, 1000, ((999,),)])

    def test_rows_one_by_one(self):
        rows = Select(FAR, offset=3).rows(ROWS)
        self.assertTrue(inspect.isgenerator(rows))
        self.assertEqual([next(rows), next(rows), next(rows, None)], [(2, 2, 5), (2, 2, 6), None])
        self.stays_lazy(InvalidTables, Select(FAR).rows, None)
        self.stays_lazy(Unsorted, Select(TRIO).rows, ROWS)


class Compared(Case):
    def test_the_list(self):
        seen = {"better": 0, "worse": 0, "rows": 0, "none": 0}
        for chance, query, tables, fixed, same, select in select_cases(900, seed=1800):
            self.assertEqual(select.query, compiled_by_words(query, fixed, same))
            self.assertTrue(is_tables(select.query, select.tables_for(tables)))
            right = list_by_words(query, tables, fixed, same)
            seen["better"] += good_order(query) is None and good_order(select.query) is not None
            seen["worse"] += good_order(query) is not None and good_order(select.query) is None
            if good_order(select.query) is None:
                self.assertTrue(is_witness(select.query, self.fails(Unsorted, select, tables).witness))
                continue
            self.assertEqual([list(select(tables)), select.total_for(tables)], [right, len(right)])
            size, offset = chance.choice((None, 0, 1, 3)), chance.randint(0, 3)
            some = Select(query, fixed=fixed, same=same, size=size, offset=offset)
            self.assertEqual(list(some.rows(tables)), right[offset:][:size])
            seen["rows" if right else "none"] += 1
        self.assertTrue(seen.pop("worse") > 0 and min(seen.values()) > 100, seen)

    def test_properties(self):
        for _, query, _, fixed, same, select in select_cases(300, seed=1801):
            alike = {column: [other for other in query.columns if is_alike(
                same, column, other)] for column in query.columns}
            numbers = {column: [fixed[other] for other in alike[column] if other in fixed] for column in query.columns}
            self.assertEqual(list(select.fixed.items()), [(column, some[0])
                             for column, some in numbers.items() if some])
            self.assertEqual(list(select.same.items()), [(column, alike[column][0]) for column in query.columns
                                                         if not numbers[column] and alike[column][0] != column])

    def test_texts(self):
        for chance, query, _, fixed, same, _ in select_cases(400, seed=1802):
            size, offset = chance.choice((None, 0, 7, 1000)), chance.choice((0, 0, 5, BIG))
            select = Select(query, fixed=fixed, same=same, size=size, offset=offset)
            found = Select.read(str(select))
            self.assertTrue(found == select and not found != select)
            self.assertEqual(str(found), str(select))
            equalities = [f"{column} = {number}" for column, number in fixed.items()] + \
                                                                                   [f"{one} = {two}" for one,
                                                                                    two in same]
            equalities += equalities[:1]
            chance.shuffle(equalities)
            text = f"select {format_query(query)}" + (" where " + " and ".join(equalities) if equalities else "")
            text += "" if size is None else f" limit {size}"
            self.assertEqual(Select.read(text + f" offset {offset}"), select)


class Texts(Case):
    def test_all_parts(self):
        text = f"select {format_query(LINE)} where a = b and c = -5 and b = 0 and d = d limit 0 offset 12"
        select = Select.read(text)
        self.assertEqual(select, Select(LINE, fixed={"b": 0, "c": -5}, same=(("a", "b"),), size=0, offset=12))
        self.assertEqual(str(select), f"select {format_query(LINE)} where a = 0 and b = 0 and c = -5 limit 0 offset 12")
        self.assertEqual([str(Select(LINE, size=1000)), str(Select(LINE, offset=1)),
                          str(Select(LINE, size=None, offset=0))],
                         [f"select {format_query(LINE)} limit 1000", f"select {format_query(LINE)} offset 1",
                          f"select {format_query(LINE)}"])
        self.assertEqual(str(Select(LINE, fixed={"c": BIG}, same=(("d", "b"), ("b", "a")))),
                         f"select {format_query(LINE)} where b = a and c = {BIG} and d = a")

    def test_zero_and_repeated_parts(self):
        self.assertEqual([Select.read(f"select {format_query(FAR)} offset 0"),
                          Select.read(f"select {format_query(FAR)} limit 1000")],
                         [Select(FAR), Select(FAR, size=1000)])
        self.assertEqual(Select.read(f"select {format_query(FAR)} where x = 1 and x = 1 and x = z and z = x and z = 1"),
                         Select(FAR, fixed={"x": 1, "z": 1}))
        self.assertEqual(Select.read(f"select {format_query(FAR)} offset {BIG}").offset, BIG)

    def test_words_that_are_names(self):
        text = f"select {format_query(WORDS)}"
        select = Select.read(f"{text} where and = and and limit = offset and where = 3 limit 3 offset 4")
        self.assertEqual(select, Select(WORDS, fixed={"where": 3}, same=(("limit", "offset"),), size=3, offset=4))
        self.assertEqual(str(select), f"{text} where offset = limit and where = 3 limit 3 offset 4")
        self.assertEqual(Select.read(f"{text} where limit = 3 limit 4").size, 4)
        self.assertEqual(Select.read(f"{text} where where = limit").same, {"where": "limit"})

    def test_other_texts(self):
        text = f"select {format_query(FAR)}"
        wrong = ["", "select", "select ", format_query(FAR), f"SELECT {format_query(FAR)}", f" {text}", f"{text} ",
                 f"{text}\n",
                 f"select  {format_query(FAR)}", f"select {text}", "select x from r(x", "select x from r(y)",
                 "select x, x from r(x)",
                 "select x", "select x from", f"select\n{format_query(FAR)}", f"{text};"]
        tails = ["where", "where x", "where x =", "where x = ", "where x = 1 and", "where x = 1 and z", "where x == 1",
                 "where x 1",
                 "where 1 = x", "where 1 = 1", "where w = 1", "where x = w", "where x = 01", "where x = -0",
                 "where x = +1",
                 "where x = 1.0", "where x=1", "where x = 1, z = 2", "where x = 1 or z = 2", "where x = 1 where z = 2",
                 "and x = 1",
                 "where x  = 1", "where  x = 1", "where x = 1  and z = 2", "where x = 1 and and z = 2",
                 "where x = z = y",
                 f"where x = {BIG + 1}", f"where x = -{BIG + 1}", "limit", "limit ", "limit -1", "limit 1001",
                 "limit 01", "limit x",
                 "limit None", "limit 1 limit 2", "limit 1 where x = 1", "offset", "offset -1", "offset 1 limit 1",
                 "offset 00",
                 "offset 1 offset 1", f"offset {BIG + 1}", "offset 1 where x = 1", "limit 1 offset", "limit offset 1",
                 "limit 1 1",
                 "where", "where limit 1", "where x = 1 limit", "where r = 1", "x = 1", "order by x", "where x = 1 ;",
                 "()",
                 "where x = (1)", "where x = 1)", f"limit {10 ** 39}", "where X = 1", "limit +1", "limit -0",
                 "offset -0"]
        wrong += [f"{text} {tail}" for tail in tails] + [f"{text} where x = 1{sign}" for sign in ODD_SIGNS]
        wrong += [f"{text} limit 1{sign}" for sign in ODD_SIGNS] + [f"{text} limit {sign}" for sign in ODD_SIGNS]
        for value in (*wrong, *odd_values(), text.encode(), [text], (text,)):
            self.fails(ParseError, Select.read, value)

    def test_near_texts(self):
        for text in (EXAMPLE, "select - from r(x, z) where x = z and z = -1 offset 10",
                     "select x from x(x) where x = x limit 0"):
            accepted = 0
            for other in altered(text):
                try:
                    select = Select.read(other)
                except (ParseError, InvalidOperation) as error:
                    self.assertIn(type(error), (ParseError, InvalidOperation))
                else:
                    self.assertEqual(Select.read(str(select)), select)
                    # Without equalities that say nothing or more than once, each select has one text.
                    if " = x" not in other and " = z" not in other:
                        self.assertEqual(str(select).split(" offset 0")[0], other.split(" offset 0")[0])
                    accepted += 1
            self.assertGreater(accepted, 2)

    def test_different_integers(self):
        text = f"select {format_query(FAR)} where"
        for tail in ("x = 1 and x = 2", "x = 1 and z = 2 and x = z", "x = y and y = z and x = 1 and z = 0",
                     "x = z and z = 2 and x = -2"):
            self.fails(InvalidOperation, Select.read, f"{text} {tail}")
            self.fails(ParseError, Select.read, f"{text} {tail} and")
            self.fails(ParseError, Select.read, f"{text} {tail} limit 1001")


class Errors(Case):
    def test_in_their_order(self):
        for query in odd_except(lambda one: isinstance(one, Query)):
            self.fails(InvalidQuery, Select, query, fixed=1, same=1, size=-1, offset=-1)
        wrong = ([("x", 1)], {"w": 1}, {"x": True}, {"x": "z"}, {"x": None}, {1: 1}, {"r": 1}, {("x",): 1},
                 {"x": 1, "w": 1},
                 *odd_except(lambda one: one is None or one == {} and isinstance(one, dict) or one == {"x": 1}))
        for fixed in wrong:
            self.fails(InvalidOperation, Select, FAR, fixed=fixed, same=(("x", "z"),), size=-1)
        wrong = (("x", "z"), [("x", "z")], (("x",),), (("x", "z", "y"),), (("x", "w"),), (["x", "z"],), (("x", 1),),
                 (("x", "z"), None),
                 (("r", "x"),), (("x", ["z"]),), None, *odd_except(lambda one: one == ()))
        for same in wrong:
            self.fails(InvalidOperation, Select, FAR, same=same, size=-1, offset=-1)
        for size in (-1, 1001, BIG, *odd_except(lambda one: one is None or is_whole(one) and 0 <= one <= 1000)):
            self.keeps(InvalidNumber, "value", size, Select, FAR, size=size, offset=-1)
            self.keeps(InvalidNumber, "value", size, Select, FAR, fixed={"x": 1, "z": 2}, same=(("x", "z"),), size=size)
        for offset in (-1, *odd_except(lambda one: is_whole(one) and one >= 0)):
            self.keeps(InvalidNumber, "value", offset, Select, FAR, offset=offset)
            self.keeps(InvalidNumber, "value", offset, Select, FAR, fixed={
                       "x": 1, "z": 2}, same=(("x", "z"),), offset=offset)

    def test_different_integers(self):
        for fixed, same in (({"x": 1, "z": 2}, (("x", "z"),)), ({"x": 1, "y": 0}, (("x", "z"), ("z", "y"))),
                            ({"x": -1, "z": 1}, (("z", "x"), ("z", "z")))):
            self.fails(InvalidOperation, Select, FAR, fixed=fixed, same=same)
        self.assertEqual(Select(FAR, fixed={"x": 1, "z": 2}, same=(("x", "x"),)).fixed, {"x": 1, "z": 2})

    def test_wrong_tables(self):
        for select in (Select(FAR), Select(TRIO), Select(FAR, fixed={"z": 2}, size=0)):
            for tables in (select.query.atoms, {"r": ((1,),), "s": ((5,),)}, {"r": ()},
                           {"r": ((2, 1), (1, 1)), "s": ()},
                           *odd_except(lambda one: one == ROWS)):
                for call in (select, select.tables_for, select.total_for, lambda one: next(select.rows(one))):
                    self.fails(InvalidTables, call, tables)

    def test_unsorted(self):
        for select in (Select(TRIO), Select(BRIDGE, same=(("y", "y"),))):
            for call in (select, select.total_for):
                self.assertTrue(is_witness(select.query, self.fails(Unsorted, call, ROWS).witness))
            self.assertEqual(select.tables_for(ROWS), ROWS)
        # There is no good order, so it does not matter that more than 1000 rows would be selected.
        great = Query.of(LETTERS[:3], {"p": ("a", "c"), "q": ("c", "b")})
        tables = {"p": tuple((number, 0) for number in range(1000)), "q": tuple((0, number) for number in range(1000))}
        self.fails(Unsorted, Select(great), tables)
        self.keeps(TooMany, "limit", 1000, Select(great.with_shown("a", "c", "b")), tables)


class States(Case):
    def test_equality(self):
        select = Select(FAR, fixed={"x": 1}, same=(("x", "z"),), size=3, offset=1)
        self.assertTrue(select == Select(FAR, fixed={"z": 1, "x": 1}, size=3, offset=1))
        self.assertFalse(select != Select(FAR, fixed={"z": 1}, same=(("z", "x"),), size=3, offset=1))
        for other in (Select(FAR, fixed={"x": 1, "z": 1}, size=3), Select(FAR, fixed={"x": 1, "z": 1}, offset=1),
                      Select(FAR, fixed={"x": 1, "z": 1}, size=2, offset=1), Select(
                          FAR, fixed={"x": 1}, size=3, offset=1),
                      Select(~FAR, fixed={"x": 1, "z": 1}, size=3, offset=1), Select(
                          FAR, same=(("x", "z"),), size=3, offset=1),
                      select.query, str(select), *odd_values()):
            self.assertTrue(select != other and not select == other)

    def test_unlike_equalities_of_equal_queries(self):
        one, other = Select(LINE, same=(("b", "a"),)), Select(LINE, same=(("c", "b"),))
        self.assertTrue(one != other and one == Select(LINE, same=(("a", "b"), ("b", "b"))))
        # All is equal but the columns that are alike.
        one, other = [Select(Query((), p=("a", "b", "c")), fixed={"a": 1}, same=same) for same in ((("b", "c"),), ())]
        self.assertEqual([one.fixed, other.fixed, one == other, one != other], [{"a": 1}, {"a": 1}, False, True])

    def test_no_access(self):
        fixed, tables = {"z": 2}, {"s": ROWS["s"], "r": ROWS["r"]}
        select = Select(FAR, fixed=fixed, same=(("y", "x"),))
        fixed["x"] = 7
        select.fixed.clear()
        select.same.clear()
        self.assertEqual([select.fixed, select.same, list(select.tables_for(tables)), list(tables)],
                         [{"z": 2}, {"y": "x"}, ["r", "s"], ["s", "r"]])
        for call in (iter, list, lambda one: [*one]):
            self.fails(TypeError, call, select)


if __name__ == "__main__":
    unittest.main()
