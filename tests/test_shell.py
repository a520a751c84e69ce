"""A shell: [0.1], [0.2], [0.4], [0.7], [0.14], [19.1], [19.2]."""

import inspect
import itertools
import random
import unittest

from pagewise.desk.desk import Desk
from pagewise.errors import (InvalidCommand, InvalidEdit, InvalidNumber, InvalidOperation, InvalidRow, InvalidTables,
                             NothingToUndo, ParseError, TooMany, UnknownName, Unsorted)
from pagewise.tables.answers import answers
from pagewise.text.formats import format_query, parse_query
from pagewise.text.shell import Shell
from tests.cases import BIG, BRIDGE, FAR, LETTERS, ROWS, TRIO, Case, odd_except, wide_query
from tests.test_desk import everything
from tests.test_formats import ODD_SIGNS

FAR_LINES = ("table r 2", "table s 2", *[f"put {name} {row[0]} {row[1]}" for name in ROWS for row in ROWS[name]],
             f"view far {format_query(FAR)}", f"view trio {format_query(TRIO)}", f"view pair {format_query(BRIDGE)}",
             f"view none {format_query(FAR.with_shown())}")


def far_shell():
    shell = Shell()
    list(shell.run_all(FAR_LINES))
    return shell


class Shells(Case):
    """Checks of lines, each of which raises and changes nothing."""

    def stays(self, error, shell, line):
        before, log = everything(shell.desk), shell.log
        found = self.fails(error, shell.run, line)
        self.assertEqual([everything(shell.desk), shell.log, len(shell)], [before, log, len(log)])
        return found

    def stays_keeping(self, error, name, value, shell, line):
        kept = getattr(self.stays(error, shell, line), name)
        self.assertEqual((type(kept), kept), (type(value), value))


class Ordinary(Shells):
    def test_the_example(self):
        shell = Shell()
        lines = ("table r 2", "put r 1 2", "put r 1 3", "view v x, z desc from r(x, z)", "count v", "row v 0")
        self.assertEqual(list(shell.run_all(lines)), ["ok", "ok", "ok", "ok", "2", "1 3"])
        self.assertEqual([shell.run(line) for line in ("page v 0 10", "place v 1 2", "paper v", "starts v 7",
                                                       "page v 1 10")],
                         ["1 3; 1 2", "1", "order x z", "0", "-"])
        self.assertEqual([shell.run(line) for line in ("undo 2", "names", "show r",
                                                       "select z from r(x, z) where x = 1")],
                         ["ok", "r", "1 2", "2"])
        self.assertEqual([len(shell), shell.log[:6], shell.log[-1]], [15, lines, "select z from r(x, z) where x = 1"])

    def test_edits(self):
        shell = Shell()
        self.assertEqual([shell.run(line) for line in ("table t 3", "put t 1 -2 3", "put t 0 0 0", "drop t 1 -2 3",
                                                       "drop t 7 7 7",
                                                       "view v b, a from t(a, b, c)", "rename t q", "rename v w")],
                                                       ["ok"] * 8)
        desk = Desk()
        for edit in (("table", "t", 3), ("put", "t", (1, -2, 3)), ("put", "t", (0, 0, 0)), ("drop", "t", (1, -2, 3)),
                     ("drop", "t", (7, 7, 7)), ("view", "v", parse_query("b, a from t(a, b, c)")), ("rename", "t", "q"),
                     ("rename", "v", "w")):
            desk.do(edit)
        self.assertEqual(everything(shell.desk), everything(desk))
        self.assertEqual([shell.run("forget w"), shell.run("forget q"),
                         shell.run("names"), shell.desk.steps], ["ok", "ok", "-", 10])
        self.assertEqual([shell.run("undo 2"), shell.run("names"), shell.run("redo 1"), shell.run("names"),
                          shell.run("undo 0"),
                          shell.run("redo 0")], ["ok", "q w", "ok", "q", "ok", "ok"])

    def test_what_is_shown(self):
        shell = far_shell()
        self.assertEqual([shell.run("names"), shell.run("show r"), shell.run("show s"), shell.run("show far"),
                          shell.run("show none")],
                         ["far none pair r s trio", "1 1; 1 2; 2 2", "1 5; 2 5; 2 6", format_query(FAR),
                          "- from r(x, z), s(z, y)"])
        self.assertEqual([shell.run("table empty 1"), shell.run("show empty"), shell.run("put empty -10"),
                          shell.run("put empty -9"),
                          shell.run("put empty 3"), shell.run("show empty")],
                          ["ok", "-", "ok", "ok", "ok", "-10; -9; 3"])
        self.assertEqual([Shell().run("names"), shell.run(f"view far {format_query(~FAR)}"), shell.run("show far")],
                         ["-", "ok", "x desc, z desc, y desc from r(x, z), s(z, y)"])

    def test_what_is_counted(self):
        shell = far_shell()
        self.assertEqual([shell.run(f"count {view}") for view in ("far", "trio", "none")], ["5", "5", "1"])
        self.assertEqual([shell.run(f"paper {view}") for view in ("far", "trio")], ["order x z y", "trio x y z"])
        self.assertIn(shell.run("paper pair"), ("bridge x z y", "bridge y z x"))

    def test_pages(self):
        shell = far_shell()
        self.assertEqual([shell.run(line) for line in ("row far 0", "row far 4", "place far 1 2 6", "place far 9 9 9",
                                                       "place far -1 0 0",
                                                       "starts far", "starts far 1", "starts far 1 2",
                                                       "starts far 1 2 5",
                                                       "page far 0 2", "page far 1 2", "page far 2 2", "page far 3 2",
                                                       "page far 0 1000", "row none 0", "place none", "starts none",
                                                       "page none 0 1",
                                                       "page none 1 1")],
                         ["1 1 5", "2 2 6", "2", "5", "0", "5", "3", "2", "1", "1 1 5; 1 2 5", "1 2 6; 2 2 5", "2 2 6",
                          "-",
                          "1 1 5; 1 2 5; 1 2 6; 2 2 5; 2 2 6", "()", "0", "1", "()", "-"])

    def test_selects(self):
        shell = far_shell()
        self.assertEqual([shell.run(line) for line in (
            "select x, y desc from r(x, z), s(z, y) where z = 2 limit 3", "select y from s(z, y) where z = 1 and y = 6",
            "select - from r(x, z)", "select - from r(x, z) where x = 7", "select b, a from s(a, b) limit 0",
            "select a, b from r(a, b) where a = b", "select x from r(x, z) offset 1")],
            ["1 6; 1 5; 2 6", "-", "()", "-", "-", "1 1; 2 2", "2"])
        self.assertEqual(shell.log[len(FAR_LINES)], "select x, y desc from r(x, z), s(z, y) where z = 2 limit 3")

    def test_great_numbers(self):
        shell = Shell()
        shell.run("table t 1")
        for number in (BIG, -BIG):
            shell.run(f"put t {number}")
        shell.run("view v x desc from t(x)")
        self.assertEqual([shell.run("page v 0 9"), shell.run(f"place v {-BIG}"), shell.run(f"page v {BIG} 9"),
                          shell.run(f"select x from t(x) where x = {BIG}")], [f"{BIG}; -{BIG}", "1", "-", str(BIG)])
        desk = Desk()
        desk.do(*[("table", "t" + one, 1) for one in LETTERS[:10]], ("view", "wide", wide_query()))
        for one in LETTERS[:10]:
            desk.do(*[("put", "t" + one, (number,)) for number in range(1000)])
        self.assertEqual([Shell(desk).run("count wide"), Shell(desk).run(f"row wide {10 ** 30 - 1}")],
                         [str(10 ** 30), " ".join(["999"] * 10)])

    def test_answers_are_those_of_the_desk(self):
        chance, shell = random.Random(1900), Shell()
        shell.run("table p 2")
        shell.run("table q 2")
        shell.run("view v a, b desc, c from p(a, b), q(b, c)")
        query = shell.desk.views["v"]
        for _ in range(120):
            word, name = chance.choice(("put", "put", "drop")), chance.choice("pq")
            shell.run(f"{word} {name} {chance.randint(0, 3)} {chance.randint(0, 3)}")
            if not chance.randrange(5):
                shell.run("undo 1")
            rows = list(answers(query, shell.desk.tables))
            self.assertEqual(shell.run("count v"), str(len(rows)))
            self.assertEqual(shell.run("page v 1 3"), "; ".join(" ".join(map(str, row)) for row in rows[3:6]) or "-")
            self.assertEqual(shell.run("select a, b desc, c from p(a, b), q(b, c) where b = 1 and a = c limit 2"),
                             "; ".join(" ".join(map(str, row)) for row in [
                                 row for row in rows if row[1] == 1 and row[0] == row[2]][:2]) or "-")
            for at, row in enumerate(rows):
                self.assertEqual([shell.run(f"row v {at}"), shell.run("place v " + " ".join(map(str, row)))],
                                 [" ".join(map(str, row)), str(at)])


class Desks(Shells):
    def test_the_desk_itself(self):
        desk = Desk()
        shell, other = Shell(desk), Shell(desk)
        self.assertIs(shell.desk, desk)
        self.assertEqual([shell.run("table t 1"), other.run("names"), desk.names, shell.log, other.log, len(other)],
                         ["ok", "t", ("t",), ("table t 1",), ("names",), 1])
        desk.do(("put", "t", (5,)))
        self.assertEqual(shell.run("show t"), "5")

    def test_a_new_desk(self):
        self.assertEqual([Shell().desk, Shell(None).desk, Shell().desk.kept], [Desk(), Desk(), 100])
        self.assertIsNot(Shell().desk, Shell().desk)
        # An empty desk counts as no names, but it is a desk.
        desk = Desk(kept=3)
        self.assertIs(Shell(desk).desk, desk)

    def test_wrong_desks(self):
        for value in odd_except(lambda one: one is None or isinstance(one, Desk)):
            self.fails(InvalidOperation, Shell, value)

    def test_the_log(self):
        shell = Shell()
        self.assertEqual([shell.log, len(shell)], [(), 0])
        for line in ("table t 1", "names", "put t 1 2", "names", "none", "put t 1", "view v x", "redo 1", "redo 0"):
            try:
                shell.run(line)
            except (InvalidEdit, InvalidCommand, ParseError, NothingToUndo):
                pass
        self.assertEqual([shell.log, len(shell)], [("table t 1", "names", "names", "put t 1", "redo 0"), 5])

    def test_not_iterated(self):
        for call in (iter, list, lambda one: [*one]):
            self.fails(TypeError, call, far_shell())


class Lines(Shells):
    def test_each_when_its_answer_is_asked_for(self):
        shell = Shell()
        found = shell.run_all(("table t 1", "put t 5", "show t"))
        self.assertTrue(inspect.isgenerator(found))
        self.assertEqual([len(shell), next(found), shell.log, shell.desk.tables, next(found), len(shell)],
                         [0, "ok", ("table t 1",), {"t": ()}, "ok", 2])
        shell.run("put t 6")
        self.assertEqual([next(found), next(found, None), list(shell.run_all(())), len(shell)], ["5; 6", None, [], 4])

    def test_an_error_goes_on(self):
        shell = Shell()
        found = shell.run_all(("table t 1", "put t 1", "put t 1 2", "put t 3"))
        self.assertEqual(list(itertools.islice(found, 2)), ["ok", "ok"])
        self.fails(InvalidEdit, next, found)
        self.assertEqual([shell.log, shell.desk.tables, list(found)], [("table t 1", "put t 1"), {"t": ((1,),)}, []])
        for value in odd_except(lambda one: isinstance(one, tuple)):
            self.stays_lazy(InvalidCommand, shell.run_all, (value,))

    def test_wrong_lines(self):
        shell = far_shell()
        for lines in (["names"], "names", {"names": 1}, *odd_except(lambda one: isinstance(one, tuple))):
            self.stays_lazy(InvalidOperation, shell.run_all, lines)
        self.assertEqual(shell.log, FAR_LINES)


class Errors(Shells):
    def test_lines_that_are_no_commands(self):
        shell = far_shell()
        lines = ["", " ", "none", "Names", "names ", " names", "names far", "names\n", "\nnames", "show", "show r s",
                 "show  r", "show R",
                 "show r1", "show ninechars", "table", "table t", "table t x", "table t -1", "table t +1",
                 "table t 01", "table t 1 1",
                 "table 1 t", "table T 1", "table t 1 ", "put", "put R 1 2", "put r x", "put r 1 x", "put r 1  2",
                 "put r 1 2 ",
                 "put r -0 1", "put r 1, 2", "put r 1 2\n", "drop", "drop r 1 01", "drop 1 r", "view", "view v",
                 "view V x from r(x, z)",
                 "view v ", "view  v x from r(x, z)", "view v x  from r(x, z)", "forget", "forget r s", "forget R",
                 "forget r ",
                 "rename r", "rename r q q", "rename r Q", "rename R q", "rename r 1", "undo", "undo -1", "undo x",
                 "undo 1 1", "undo 01",
                 "undo +1", "redo", "redo -1", "redo 1 2", "redo one", "count", "count far far", "count Far", "paper",
                 "paper far 1",
                 "row", "row far", "row far -1", "row far x", "row far 0 0", "place", "place far x", "place 1 2",
                 "place far 1.0",
                 "starts", "starts far x", "starts Far", "page", "page far", "page far 0", "page far 0 x",
                 "page far -1 1",
                 "page far 0 -1", "page far 0 1 1", "page far 00 1", "select", "select ", "select  x from r(x, z)",
                 "SELECT x",
                 "select x from r(x, z) ", "select x  from r(x, z)", f"undo {BIG + 1}", f"put r 1 {BIG + 1}",
                 "table t 1;", "help",
                 "do", "width r", "names names", "show\nr", "show r\n", "table\tt 1"]
        lines += [f"table t 1{sign}" for sign in ODD_SIGNS] + [f"put r 1 {sign}" for sign in ODD_SIGNS]
        lines += [f"show r{sign}" for sign in ODD_SIGNS if sign.islower() or sign in "_A+"]
        for line in (*lines, *odd_except(lambda one: False), b"names", ["names"], ("names",)):
            self.stays(InvalidCommand, shell, line)

    def test_texts_that_are_none(self):
        shell = far_shell()
        for text in ("x", "x from", "x from r(x)x", "x, from r(x, z)", "- from r(x, x)", "x from r(x,z)",
                     "x\nfrom r(x, z)", "1",
                     "select x from r(x, z)", "x from r(x, z) where x = 1", "x from s(x), r(x)"):
            self.stays(ParseError, shell, f"view v {text}")
            self.stays(ParseError, shell, f"view far {text}")
        for text in ("x", "x from r(x)x", "x from r(x, z) where", "x from r(x, z) limit 1001",
                     "x from r(x, z) where x = 01",
                     "x from r(x, z)\n", "x from q(x) where x = 1 and x = 2 and", "x from r(x, z) offset -1"):
            self.stays(ParseError, shell, f"select {text}")

    def test_edits_that_are_not_possible(self):
        shell = far_shell()
        for line in ("table t 0", "table t 11", "table r 2", "table far 1", "put r", "put r 1", "put r 1 2 3",
                     "put t 1", "put far 1 2",
                     "drop r", "drop r 1", "drop far 1", "put r 1 2 3 4 5 6 7 8 9 10 11", "forget r", "forget zzz",
                     "rename r s", "rename r far", "rename t q", "view r x from s(x, z)", "view v x from r(x)",
                     "view v x from t(x)", "view v x from far(x, z, y)", f"table t {BIG}"):
            self.stays(InvalidEdit, shell, line)
        for number in range(997):
            shell.run(f"put r 9 {number}")
        self.assertEqual(len(shell.desk.tables["r"]), 1000)
        self.stays(InvalidEdit, shell, "put r 10 0")
        for at in range(14):
            shell.run(f"table n{LETTERS[at]} 1")
        self.stays(InvalidEdit, shell, "table one 1")
        self.stays(InvalidEdit, shell, "view one x from r(x, z)")

    def test_steps(self):
        shell = Shell()
        shell.run("table t 1")
        self.stays_keeping(NothingToUndo, "many", 2, shell, "undo 2")
        self.stays_keeping(NothingToUndo, "many", 1, shell, "redo 1")
        self.stays_keeping(NothingToUndo, "many", BIG, shell, f"undo {BIG}")
        self.assertEqual([shell.run("undo 1"), shell.run("redo 1"), shell.run("names")], ["ok", "ok", "t"])

    def test_unknown_names(self):
        shell = far_shell()
        for line in ("show zzz", "count zzz", "paper zzz", "row zzz 0", "place zzz", "starts zzz 1", "page zzz 0 0"):
            self.stays_keeping(UnknownName, "name", "zzz", shell, line)
        for line in ("count r", "paper r", "row r 99", "place r", "starts r 1 2 3", "page r 0 0"):
            self.stays_keeping(UnknownName, "name", "r", shell, line)

    def test_views_without_pages(self):
        shell = far_shell()
        self.stays_keeping(Unsorted, "witness", ("trio", ("x", "y", "z")), shell, "row trio 99")
        for line in ("row pair 99", "place pair", "starts pair 1 2 3 4", "page pair 0 0", "count pair"):
            self.assertEqual(self.stays(Unsorted, shell, line).witness[0], "bridge")

    def test_wrong_numbers_and_rows(self):
        shell = far_shell()
        for line, number in (("row far 5", 5), (f"row far {BIG}", BIG), ("page far 0 0", 0), ("page far 9 1001", 1001),
                             ("row none 1", 1)):
            self.stays_keeping(InvalidNumber, "value", number, shell, line)
        for line in ("place far", "place far 1 2", "place far 1 2 3 4", "starts far 1 2 3 4", "place none 1",
                     "starts none 1",
                     "place far " + " ".join("1" * 11)):
            self.stays(InvalidRow, shell, line)

    def test_errors_of_selects_in_their_order(self):
        shell = far_shell()
        shell.run("table one 1")
        self.stays(InvalidOperation, shell, "select x from p(x), q(x) where x = 1 and x = 2")
        self.stays(InvalidOperation, shell, "select x from one(x, y) where x = y and x = 1 and y = 2")
        self.stays_keeping(UnknownName, "name", "p", shell, "select x from p(x), q(x), r(x)")
        self.stays_keeping(UnknownName, "name", "q", shell, "select x from one(x, y), q(x)")
        self.stays_keeping(UnknownName, "name", "far", shell, "select x from far(x, y, z)")
        self.stays(InvalidTables, shell, "select x from one(x, y)")
        self.stays(InvalidTables, shell, "select x, y from one(x), r(x, z, y), s(z, y)")
        # The columns of the atoms are checked ahead of the witness that this query has, too.
        self.stays(InvalidTables, shell, "select x, y, z from one(w, x), r(x, z), s(z, y)")
        self.stays_keeping(Unsorted, "witness", ("trio", ("x", "y", "z")),
                           shell, "select x, y, z from r(x, z), s(z, y)")
        for number in range(1000):
            shell.run(f"put one {number}")
        self.stays_keeping(TooMany, "limit", 1000, shell, "select a, x from one(a), r(x, z)")
        self.assertEqual(shell.run("select a, x from one(a), r(x, z) limit 1000").count(";"), 999)


if __name__ == "__main__":
    unittest.main()
