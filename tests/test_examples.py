"""The examples of the document, as they stand there."""

import doctest
import unittest

from pagewise.base.rows import before, is_name, is_row, place_of, sorted_rows
from pagewise.queries.queries import Query
from pagewise.shapes.neighbours import home, home_of, neighbours, parts, way
from pagewise.shapes.rings import is_ring, is_shell, rings, shells
from pagewise.shapes.witnesses import bridges, is_bridge, is_trio, is_witness, trios, witness, witnesses
from pagewise.tables.answers import answers, count_answers, is_answer, solutions
from pagewise.tables.tables import chosen, chosen_by, is_tables, tables_by, tables_from, values_of

VALUES = """
>>> FAR = Query(("x", "z", "y"), r=("x", "z"), s=("z", "y"))
>>> ROWS = {"r": ((1, 1), (1, 2), (2, 2)), "s": ((1, 5), (2, 5), (2, 6))}
>>> TRIO = FAR.with_shown("x", "y", "z")
>>> BRIDGE = FAR.with_shown("x", "y")
>>> RING = Query((), p=("a", "b"), q=("b", "c"), r=("c", "d"), s=("d", "a"))
>>> SHELL = Query((), p=("a", "b"), q=("b", "c"), r=("a", "c"))
"""

ROW_EXAMPLES = """
>>> [is_row(2, (3, True)), before((1, 5), (1, 2), down=(1,)), sorted_rows(((2, 0), (1, 0), (2, 0)), down=(0, 4))]
[False, True, ((2, 0), (1, 0))]
>>> place_of(((1, 9), (1, 3), (2, 5)), (1, 4), down=(1,))
1
"""

QUERY_EXAMPLES = """
>>> [FAR.hidden, BRIDGE.hidden, FAR.atom("s"), list(FAR.having("z")), "r" in FAR, len(FAR)]
[(), ('z',), ('z', 'y'), ['r', 's'], False, 3]
>>> low = Query(("x",), down=("x",), r=("x", "z"))
>>> [(low | FAR).shown, (low | FAR).down, (~FAR).down, FAR.renamed(x="y", y="x").atoms]
[('x', 'z', 'y'), ('x',), ('x', 'y', 'z'), {'r': ('y', 'z'), 's': ('z', 'x')}]
"""

TABLE_EXAMPLES = """
>>> tables_from(FAR, s=((2, 6), (1, 5), (2, 5)), r=((2, 2), (1, 2), (1, 1), (1, 2))) == ROWS
True
>>> [values_of(FAR, ROWS, "z"), chosen(FAR, ROWS, x=1), is_tables(FAR, {"r": ()})]
[(1, 2), {'r': ((1, 1), (1, 2)), 's': ((1, 5), (2, 5), (2, 6))}, False]
>>> [list(answers(BRIDGE, ROWS)), list(solutions(FAR, chosen(FAR, ROWS, y=6)))]
[[(1, 5), (1, 6), (2, 5), (2, 6)], [{'x': 1, 'y': 6, 'z': 2}, {'x': 2, 'y': 6, 'z': 2}]]
"""

SHAPE_EXAMPLES = """
>>> [neighbours(FAR), home(FAR, "z"), home(FAR, "x", "y"), parts(RING), way(FAR, "x", "y")]
[{'x': ('z',), 'y': ('z',), 'z': ('x', 'y')}, 'r', None, (('a', 'b', 'c', 'd'),), ('x', 'z', 'y')]
>>> [list(rings(RING)), is_ring(RING, ("c", "b", "a", "d")), list(rings(SHELL)), list(shells(SHELL)), is_shell(SHELL, ("b", "a", "c"))]
[[('a', 'b', 'c', 'd')], True, [], [('a', 'b', 'c')], False]
"""

WITNESS_EXAMPLES = """
>>> [witness(FAR), list(witnesses(TRIO)), list(bridges(BRIDGE)), list(trios(BRIDGE))]
[None, [('trio', ('x', 'y', 'z'))], [('x', 'z', 'y')], []]
>>> [is_witness(RING, ("ring", ("c", "b", "a", "d"))), is_witness(SHELL, ("shell", ("a", "b", "c"))), is_bridge(BRIDGE, ("y", "z", "x"))]
[True, True, True]
"""

# All that has landed of the interface, so that each name is imported from its module.
NAMES = (
    before, is_name, is_row, place_of, sorted_rows, Query, home, home_of, neighbours, parts, way,
    is_ring, is_shell, rings, shells, bridges, is_bridge, is_trio, is_witness, trios, witness, witnesses,
    answers, count_answers, is_answer, solutions, chosen, chosen_by, is_tables, tables_by, tables_from, values_of,
)


class Examples(unittest.TestCase):
    def run_examples(self, text):
        names = {one.__name__: one for one in NAMES}
        test = doctest.DocTestParser().get_doctest(VALUES + text, names, "examples", None, None)
        found = []
        failed, tried = doctest.DocTestRunner(verbose=False).run(test, out=found.append)
        self.assertEqual(failed, 0, "".join(found))
        self.assertGreaterEqual(tried, VALUES.count(">>>"))

    def test_values(self):
        self.run_examples("")

    def test_answers_of_far(self):
        self.run_examples(
            ">>> list(answers(FAR, ROWS))\n[(1, 1, 5), (1, 2, 5), (1, 2, 6), (2, 2, 5), (2, 2, 6)]\n")

    def test_rows(self):
        self.run_examples(ROW_EXAMPLES)

    def test_queries(self):
        self.run_examples(QUERY_EXAMPLES)

    def test_tables(self):
        self.run_examples(TABLE_EXAMPLES)

    def test_shapes(self):
        self.run_examples(SHAPE_EXAMPLES)

    def test_witnesses(self):
        self.run_examples(WITNESS_EXAMPLES)


if __name__ == "__main__":
    unittest.main()
