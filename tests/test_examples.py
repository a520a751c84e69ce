"""The examples of the document, as they stand there."""

import doctest
import unittest

from pagewise.base.rows import before, is_name, is_row, place_of, sorted_rows
from pagewise.desk.desk import Desk
from pagewise.keys.keys import KeyedPages, grown, grown_tables, holds_key, is_key, shown_part
from pagewise.layers.forests import children, ends, layer_columns, open_columns, parents
from pagewise.layers.layers import is_layers, layers, total
from pagewise.live.cursors import Cursor
from pagewise.live.live import Live
from pagewise.orders.beginnings import (beginning_paper, completed, count_sort_orders, is_beginning_paper,
                                        longest_beginning, sort_orders)
from pagewise.orders.good import good_order, good_orders, homes, is_good, is_order_paper, order_paper
from pagewise.pages.pages import Pages
from pagewise.pages.sums import cuts, extremes, groups, middle, sum_of, tally
from pagewise.problems.closed import closed_row, closed_tables, full_choice
from pagewise.problems.products import product, product_by, product_tables
from pagewise.queries.queries import Query
from pagewise.shapes.neighbours import home, home_of, neighbours, parts, way
from pagewise.shapes.rings import is_ring, is_shell, rings, shells
from pagewise.shapes.witnesses import bridges, is_bridge, is_trio, is_witness, trios, witness, witnesses
from pagewise.tables.answers import answers, count_answers, is_answer, solutions
from pagewise.tables.reduced import agree, any_solution, clashing, count_solutions, is_reduced, reduced
from pagewise.tables.tables import chosen, chosen_by, is_tables, tables_by, tables_from, values_of
from pagewise.text.formats import (format_key, format_order, format_paper, format_query, format_row, format_tables,
                                   parse_key, parse_order, parse_paper, parse_query, parse_row, parse_tables)
from pagewise.text.selects import Select
from pagewise.text.shell import Shell

VALUES = """
>>> FAR = Query(("x", "z", "y"), r=("x", "z"), s=("z", "y"))
>>> ROWS = {"r": ((1, 1), (1, 2), (2, 2)), "s": ((1, 5), (2, 5), (2, 6))}
>>> TRIO = FAR.with_shown("x", "y", "z")
>>> BRIDGE = FAR.with_shown("x", "y")
>>> RING = Query((), p=("a", "b"), q=("b", "c"), r=("c", "d"), s=("d", "a"))
>>> SHELL = Query((), p=("a", "b"), q=("b", "c"), r=("a", "c"))
"""

ROW_EXAMPLES = """
>>> [is_row(2, (3, True)), before((1, 5), (1, 2), down=(1,)), sorted_rows(((2, 0), (1, 0), (2, 0)), down=(0, 4))]
[False, True, ((2, 0), (1, 0))]
>>> place_of(((1, 9), (1, 3), (2, 5)), (1, 4), down=(1,))
1
"""

QUERY_EXAMPLES = """
>>> [FAR.hidden, BRIDGE.hidden, FAR.atom("s"), list(FAR.having("z")), "r" in FAR, len(FAR)]
[(), ('z',), ('z', 'y'), ['r', 's'], False, 3]
>>> low = Query(("x",), down=("x",), r=("x", "z"))
>>> [(low | FAR).shown, (low | FAR).down, (~FAR).down, FAR.renamed(x="y", y="x").atoms]
[('x', 'z', 'y'), ('x',), ('x', 'y', 'z'), {'r': ('y', 'z'), 's': ('z', 'x')}]
"""

TABLE_EXAMPLES = """
>>> tables_from(FAR, s=((2, 6), (1, 5), (2, 5)), r=((2, 2), (1, 2), (1, 1), (1, 2))) == ROWS
True
>>> [values_of(FAR, ROWS, "z"), chosen(FAR, ROWS, x=1), is_tables(FAR, {"r": ()})]
[(1, 2), {'r': ((1, 1), (1, 2)), 's': ((1, 5), (2, 5), (2, 6))}, False]
>>> [list(answers(BRIDGE, ROWS)), list(solutions(FAR, chosen(FAR, ROWS, y=6)))]
[[(1, 5), (1, 6), (2, 5), (2, 6)], [{'x': 1, 'y': 6, 'z': 2}, {'x': 2, 'y': 6, 'z': 2}]]
"""

SHAPE_EXAMPLES = """
>>> [neighbours(FAR), home(FAR, "z"), home(FAR, "x", "y"), parts(RING), way(FAR, "x", "y")]
[{'x': ('z',), 'y': ('z',), 'z': ('x', 'y')}, 'r', None, (('a', 'b', 'c', 'd'),), ('x', 'z', 'y')]
>>> [list(rings(RING)), is_ring(RING, ("c", "b", "a", "d")), list(rings(SHELL)), list(shells(SHELL)), is_shell(SHELL, ("b", "a", "c"))]
[[('a', 'b', 'c', 'd')], True, [], [('a', 'b', 'c')], False]
"""

WITNESS_EXAMPLES = """
>>> [witness(FAR), list(witnesses(TRIO)), list(bridges(BRIDGE)), list(trios(BRIDGE))]
[None, [('trio', ('x', 'y', 'z'))], [('x', 'z', 'y')], []]
>>> [is_witness(RING, ("ring", ("c", "b", "a", "d"))), is_witness(SHELL, ("shell", ("a", "b", "c"))), is_bridge(BRIDGE, ("y", "z", "x"))]
[True, True, True]
"""

ORDER_EXAMPLES = """
>>> [homes(FAR, ("x", "z", "y")), list(good_orders(FAR.with_shown("z"))), good_order(TRIO), is_good(BRIDGE, ("x", "y", "z"))]
[{'x': 'r', 'y': 's', 'z': 'r'}, [('z', 'x', 'y'), ('z', 'y', 'x')], None, False]
>>> [order_paper(TRIO), order_paper(FAR), is_order_paper(BRIDGE, ("bridge", ("y", "z", "x")))]
[('trio', ('x', 'y', 'z')), ('order', ('x', 'z', 'y')), True]
"""

BEGINNING_EXAMPLES = """
>>> [completed(TRIO, ("x",)), completed(TRIO, ("x", "y")), longest_beginning(TRIO, ("x", "y", "z")), list(sort_orders(TRIO))]
[('x', 'z', 'y'), None, ('x',), [('x', 'z', 'y'), ('y', 'z', 'x'), ('z', 'x', 'y'), ('z', 'y', 'x')]]
>>> [is_beginning_paper(TRIO, ("x", "y"), paper) for paper in [("bridge", ("y", "z", "x")), ("trio", ("x", "y", "z")), ("sort", ("x", "y", "z"))]]
[True, False, False]
>>> [count_sort_orders(BRIDGE), longest_beginning(BRIDGE, ("x",))]
[0, None]
"""

LAYER_EXAMPLES = """
>>> order = ("x", "z", "y")
>>> [parents(FAR, order), layer_columns(FAR, order)["y"], ends(FAR, order)["z"], open_columns(FAR, order, 1)]
[{'x': None, 'y': 'z', 'z': 'x'}, ('z', 'y'), ('r',), ('z',)]
>>> [layers(FAR, ROWS, order)["z"], layers(FAR, ROWS, order)["x"], total(FAR, ROWS)]
[{(1, 1): 1, (1, 2): 2, (2, 2): 2}, {(1,): 3, (2,): 2}, 5]
"""

PAGE_EXAMPLES = """
>>> pages = Pages(FAR, ROWS)
>>> [pages.total, pages[2], pages.position_of((1, 3, 0)), pages.after((1, 3, 0)), pages.ahead_of((1, 1, 5))]
[5, (1, 2, 6), 3, (2, 2, 5), None]
>>> [pages.span((1, 2)), pages.between((1, 2, 0), (2, 2, 5)), pages.page(1, size=3), Pages(~FAR, ROWS)[0]]
[(1, 3), 3, ((2, 2, 5), (2, 2, 6)), (2, 2, 6)]
"""

SUM_EXAMPLES = """
>>> pages = Pages(FAR, ROWS)
>>> [list(groups(pages, (1,))), sum_of(pages, "y"), sum_of(pages, "y", (1,)), extremes(pages, "z", (2,))]
[[(1, 1), (2, 2)], 27, 16, (2, 2)]
>>> [tally(pages, "y"), tally(pages, "z", (1,)), middle(pages), middle(pages, (2,)), cuts(pages, 2)]
[{5: 3, 6: 2}, {1: 1, 2: 2}, (1, 2, 6), (2, 2, 5), (0, 2, 5)]
"""

LIVE_EXAMPLES = """
>>> live = Live(FAR, tables=ROWS)
>>> [live.put("s", (2, 4)), live.total, live[1], live.drop("r", (1, 1)), live.total, live.steps, live.undo(many=2), str(live)]
[True, 7, (1, 2, 4), True, 6, 2, 0, 'live pages of 5 answers, 0 steps']
>>> [live.attempt(lambda book: book.change((("drop", "s", (1, 5)), ("drop", "s", (2, 5)), ("drop", "s", (3, 5))))), live.total, live.redo(), live.log]
[2, 5, 1, ((('put', 's', (2, 4)),),)]
"""

CURSOR_EXAMPLES = """
>>> live = Live(FAR, tables=ROWS)
>>> cursor = Cursor(live)
>>> [cursor.at(2), live.put("r", (1, 0)), live.put("s", (0, 9)), cursor.row, str(cursor)]
[(1, 2, 6), True, True, (1, 2, 6), 'cursor at 3 of 6']
>>> [live.drop("s", (2, 6)), cursor.row, cursor.anchor, cursor.position, live.undo(), cursor.row]
[True, (2, 2, 5), (1, 2, 6), 3, 2, (1, 2, 6)]
>>> [cursor.take(size=2), cursor.row, cursor.back(), cursor.to((1, 1, 6)), cursor.to_end(), cursor.back()]
[((1, 2, 6), (2, 2, 5)), (2, 2, 6), (2, 2, 5), (1, 2, 5), None, (2, 2, 6)]
"""

PROBLEM_EXAMPLES = """
>>> first, second, trio = ((1, 7), (2, 8)), ((7, 3), (9, 4)), ("trio", ("x", "y", "z"))
>>> [product(first, second), product_tables(TRIO, trio, first, second)]
[((1, 3),), {'r': ((1, 7), (2, 8)), 's': ((7, 3), (9, 4))}]
>>> server = lambda query, tables, values: len([one for one in answers(query, tables) if one[:len(values)] == values])
>>> product_by(BRIDGE, ("bridge", ("x", "z", "y")), first, second, server)
((1, 3),)
>>> like, unlike, ring = ((0, 0), (1, 1)), ((0, 1), (1, 0)), ("ring", ("a", "b", "c", "d"))
>>> [closed_row((like, unlike, unlike, like)), closed_row((like, like, like, unlike)), full_choice((like, like, like))]
[(0, 0, 1, 0), None, (0, 0, 0)]
>>> [count_answers(RING, closed_tables(RING, ring, inputs)) for inputs in [(like,) * 4, (like, like, like, unlike)]]
[1, 0]
"""

REDUCED_EXAMPLES = """
>>> loose = {"r": ((1, 1), (3, 4)), "s": ((1, 5), (2, 5))}
>>> [agree(FAR, loose), reduced(FAR, loose), any_solution(BRIDGE, loose), count_solutions(BRIDGE, ROWS)]
[False, {'r': ((1, 1),), 's': ((1, 5),)}, {'x': 1, 'y': 5, 'z': 1}, 5]
>>> [is_reduced(BRIDGE, ROWS), agree(SHELL, clashing(SHELL, ("shell", ("a", "b", "c"))))]
[True, True]
"""

KEY_EXAMPLES = """
>>> key, few = ("r", ("x",), "z"), {"r": ((1, 1), (2, 2)), "s": ROWS["s"]}
>>> [holds_key(TRIO, ROWS, key), holds_key(TRIO, few, key), grown(TRIO, (key,)) == FAR, shown_part(BRIDGE, (2, 2, 6), (key,))]
[False, True, True, (2, 6)]
>>> pages = KeyedPages(TRIO, few, (key,))
>>> [pages.total, pages[1], pages.position_of((2, 6, 0)), grown(FAR, (("s", ("z",), "y"),)).atom("r")]
[3, (2, 5, 2), 2, ('x', 'z', 'y')]
"""

DESK_EXAMPLES = """
>>> desk = Desk()
>>> [desk.do(("table", "r", 2), ("table", "s", 2), ("view", "far", FAR), ("put", "r", (1, 2))), desk.pages("far").total]
[1, 0]
>>> desk.do(("put", "s", (2, 5)), ("put", "s", (2, 6)), ("view", "pair", BRIDGE))
2
>>> [desk.pages("far")[1], desk.total_of("far"), desk.paper("pair")[0], desk.undo(), desk.total_of("far")]
[(1, 2, 6), 2, 'bridge', 1, 0]
"""

TEXT_EXAMPLES = r"""
>>> [format_query(FAR), format_query(~BRIDGE), format_query(FAR.with_shown())]
['x, z, y from r(x, z), s(z, y)', 'x desc, y desc from r(x, z), s(z, y)', '- from r(x, z), s(z, y)']
>>> [format_tables(FAR, ROWS), parse_tables(FAR, "s 1 -5"), parse_row("0 -12"), parse_order(FAR, "x z y")]
['r 1 1\nr 1 2\nr 2 2\ns 1 5\ns 2 5\ns 2 6', {'r': (), 's': ((1, -5),)}, (0, -12), ('x', 'z', 'y')]
>>> [parse_query("a from p(a, b), q(b)") == Query(("a",), p=("a", "b"), q=("b",)), format_paper(TRIO, ("trio", ("x", "y", "z"))), parse_key(FAR, "r: x -> z")]
[True, 'trio x y z', ('r', ('x',), 'z')]
"""

SELECT_EXAMPLES = """
>>> some = Select.read("select x, y desc from r(x, z), s(z, y) where z = 2 limit 3")
>>> [some.query == Query(("x", "y"), down=("y",), r=("x",), s=("y",)), some(ROWS), some.total_for(ROWS)]
[True, ((1, 6), (1, 5), (2, 6)), 4]
>>> str(Select(FAR, same=(("z", "y"), ("x", "z")), offset=1))
'select x, z, y from r(x, z), s(z, y) where y = x and z = x offset 1'
"""

SHELL_LINE_EXAMPLES = """
>>> shell = Shell()
>>> list(shell.run_all(("table r 2", "put r 1 2", "put r 1 3", "view v x, z desc from r(x, z)", "count v", "row v 0")))
['ok', 'ok', 'ok', 'ok', '2', '1 3']
>>> [shell.run("page v 0 10"), shell.run("place v 1 2"), shell.run("paper v"), shell.run("starts v 7"), shell.run("page v 1 10")]
['1 3; 1 2', '1', 'order x z', '0', '-']
>>> [shell.run("undo 2"), shell.run("names"), shell.run("show r"), shell.run("select z from r(x, z) where x = 1"), len(shell)]
['ok', 'r', '1 2', '2', 15]
"""

# The whole interface but for the errors, so that each name is imported from its module.
NAMES = (
    before, is_name, is_row, place_of, sorted_rows, Query, home, home_of, neighbours, parts, way,
    is_ring, is_shell, rings, shells, bridges, is_bridge, is_trio, is_witness, trios, witness, witnesses,
    answers, count_answers, is_answer, solutions, chosen, chosen_by, is_tables, tables_by, tables_from, values_of,
    good_order, good_orders, homes, is_good, is_order_paper, order_paper, beginning_paper, completed, count_sort_orders,
    is_beginning_paper, longest_beginning, sort_orders, children, ends, layer_columns, open_columns, parents,
    is_layers, layers, total, Pages, cuts, extremes, groups, middle, sum_of, tally, Live, Cursor,
    product, product_by, product_tables, closed_row, closed_tables, full_choice, agree, any_solution, clashing,
    count_solutions, is_reduced, reduced, KeyedPages, grown, grown_tables, holds_key, is_key, shown_part, Desk,
    format_key, format_order, format_paper, format_query, format_row, format_tables, parse_key, parse_order, parse_paper,
    parse_query, parse_row, parse_tables, Select, Shell,
)


class Examples(unittest.TestCase):
    def run_examples(self, text):
        names = {one.__name__: one for one in NAMES}
        test = doctest.DocTestParser().get_doctest(VALUES + text, names, "examples", None, None)
        found = []
        failed, tried = doctest.DocTestRunner(verbose=False).run(test, out=found.append)
        self.assertEqual(failed, 0, "".join(found))
        self.assertGreaterEqual(tried, VALUES.count(">>>"))

    def test_values(self):
        self.run_examples("")

    def test_answers_of_far(self):
        self.run_examples(
            ">>> list(answers(FAR, ROWS))\n[(1, 1, 5), (1, 2, 5), (1, 2, 6), (2, 2, 5), (2, 2, 6)]\n")

    def test_rows(self):
        self.run_examples(ROW_EXAMPLES)

    def test_queries(self):
        self.run_examples(QUERY_EXAMPLES)

    def test_tables(self):
        self.run_examples(TABLE_EXAMPLES)

    def test_shapes(self):
        self.run_examples(SHAPE_EXAMPLES)

    def test_witnesses(self):
        self.run_examples(WITNESS_EXAMPLES)

    def test_good_orders(self):
        self.run_examples(ORDER_EXAMPLES)

    def test_beginnings(self):
        self.run_examples(BEGINNING_EXAMPLES)

    def test_layers(self):
        self.run_examples(LAYER_EXAMPLES)

    def test_pages(self):
        self.run_examples(PAGE_EXAMPLES)

    def test_sums(self):
        self.run_examples(SUM_EXAMPLES)

    def test_live_tables(self):
        self.run_examples(LIVE_EXAMPLES)

    def test_cursors(self):
        self.run_examples(CURSOR_EXAMPLES)

    def test_problems(self):
        self.run_examples(PROBLEM_EXAMPLES)

    def test_reduced_tables(self):
        self.run_examples(REDUCED_EXAMPLES)

    def test_keys(self):
        self.run_examples(KEY_EXAMPLES)

    def test_desks(self):
        self.run_examples(DESK_EXAMPLES)

    def test_texts(self):
        self.run_examples(TEXT_EXAMPLES)

    def test_selects(self):
        self.run_examples(SELECT_EXAMPLES)

    def test_shells(self):
        self.run_examples(SHELL_LINE_EXAMPLES)


if __name__ == "__main__":
    unittest.main()
