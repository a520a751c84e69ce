"""A desk: [0.2], [0.4], [0.14], [16.1], [16.2]."""

import copy
import random
import unittest

from pagewise.desk.desk import MAX_KEPT, MAX_NAMES, Desk
from pagewise.errors import InvalidEdit, InvalidNumber, NothingToUndo, UnknownName, Unsorted
from pagewise.orders.beginnings import sort_orders
from pagewise.orders.good import good_order, is_order_paper
from pagewise.pages.pages import Pages
from pagewise.queries.queries import Query
from pagewise.shapes.witnesses import is_witness, witnesses
from pagewise.tables.answers import answers
from pagewise.tables.tables import is_tables
from tests.cases import BIG, BRIDGE, FAR, LETTERS, RING, ROWS, TRIO, Case, is_whole, odd_except, odd_values

BASE = (("table", "r", 2), ("table", "s", 2), ("view", "far", FAR))
PUTS = tuple(("put", name, row) for name in ROWS for row in ROWS[name])
ONE = Query(("x",), r=("x", "z"))


class Stop(Exception):
    """An error that no part of the package knows."""


def far_desk(**kept):
    """A desk with FAR over ROWS, in two steps."""
    desk = Desk(**kept)
    desk.do(*BASE)
    desk.do_all(PUTS)
    return desk


def widths_of(desk):
    return {name: desk.width(name) for name in desk.tables}


def state_of(desk):
    """All that a desk tells without its steps."""
    return [desk.names, desk.tables, widths_of(desk), desk.views, desk.kept]


def everything(desk):
    """All that a desk tells, also of its steps and of the undone ones."""
    twin = desk.twin()
    found = [state_of(twin), twin.steps]
    twin.keep(MAX_KEPT)
    many = undone(twin)
    found.append(many)
    twin.redo(many=many)
    while twin.steps:
        twin.undo()
        found.append(state_of(twin))
    return found


def undone(desk):
    """How many steps can be done again."""
    twin = desk.twin()
    for many in range(2000):
        try:
            twin.redo()
        except NothingToUndo:
            return many


class Record:
    """What stands on a desk and what stood there, written down plainly."""

    def __init__(self, kept):
        self.now = {"widths": {}, "rows": {}, "views": {}}
        self.done, self.undone, self.kept = [], [], kept

    def is_possible(self, edit):
        widths, rows, views = self.now["widths"], self.now["rows"], self.now["views"]
        word, name = edit[:2]
        taken = {**widths, **views}
        if word == "table":
            return name not in taken and 1 <= edit[2] <= 10 and len(taken) < 20
        if word in ("put", "drop"):
            fits = name in widths and len(edit[2]) == widths[name]
            return fits and (word == "drop" or edit[2] in rows[name] or len(rows[name]) < 1000)
        if word == "view":
            fits = all(widths.get(atom) == len(own) for atom, own in edit[2].atoms.items())
            return fits and name not in widths and (name in views or len(taken) < 20)
        if word == "forget":
            return name in taken and not any(name in query.atoms for query in views.values())
        return name in taken and edit[2] not in taken

    def make(self, edit):
        widths, rows, views = self.now["widths"], self.now["rows"], self.now["views"]
        word, name = edit[:2]
        if word == "table":
            widths[name], rows[name] = edit[2], set()
        elif word == "put":
            rows[name].add(edit[2])
        elif word == "drop":
            rows[name].discard(edit[2])
        elif word == "view":
            views[name] = edit[2]
        elif word == "forget":
            for named in (widths, rows, views):
                named.pop(name, None)
        else:
            for named in (widths, rows, views):
                if name in named:
                    named[edit[2]] = named.pop(name)
            for view, query in views.items():
                atoms = {edit[2] if atom == name else atom: own for atom, own in query.atoms.items()}
                views[view] = Query.of(query.shown, atoms, down=query.down)

    def step(self, edits):
        """Make the edits as a step, and return whether all of them were possible."""
        before = copy.deepcopy(self.now)
        for edit in edits:
            if not self.is_possible(edit):
                self.now = before
                return False
            self.make(edit)
        if edits:
            self.done, self.undone = [*self.done, before], []
        self.trim()
        return True

    def trim(self):
        self.done = self.done[max(0, len(self.done) - self.kept):]

    def undo(self):
        self.undone.append(self.now)
        self.now = self.done.pop()

    def redo(self):
        self.done.append(self.now)
        self.now = self.undone.pop()

    def state(self):
        return [tuple(sorted([*self.now["widths"], *self.now["views"]])),
                {name: tuple(sorted(rows)) for name, rows in self.now["rows"].items()},
                self.now["widths"], self.now["views"], self.kept]


def random_edit(chance, names, record):
    """An edit that is possible in most cases."""
    widths, rows = record.now["widths"], record.now["rows"]
    word = chance.choice(("table", "put", "put", "put", "put", "drop", "drop", "view", "view", "forget", "rename"))
    name = chance.choice(names)
    if word == "table":
        return (word, name, chance.randint(1, 3))
    table = chance.choice(sorted(widths) or [name]) if chance.randrange(9) else name
    width = widths.get(table, 2) if chance.randrange(9) else 1
    if word == "drop" and rows.get(table) and chance.randrange(3):
        return (word, table, chance.choice(sorted(rows[table])))
    if word in ("put", "drop"):
        return (word, table, tuple(chance.randint(0, 2) for _ in range(width)))
    if word == "view":
        used = chance.sample(sorted(widths), min(len(widths), chance.choice((1, 2, 2)))) or [name]
        atoms = {one: tuple(chance.sample("wxyz", widths.get(one, 2))) for one in used}
        shown = chance.choice(list(atoms.values()))
        return (word, name, Query.of(shown, atoms, down=shown[:chance.randint(0, 1)]))
    if word == "forget":
        return (word, name)
    return (word, chance.choice(record.state()[0] or (name,)), name)


class Ordinary(Case):
    def test_constants(self):
        self.assertEqual([MAX_NAMES, MAX_KEPT], [20, 1000])

    def test_an_empty_desk(self):
        desk = Desk()
        self.assertEqual([desk.names, desk.tables, desk.views, desk.steps, desk.kept, len(desk), str(desk)],
                         [(), {}, {}, 0, 100, 0, "desk of 0 tables, 0 views"])
        self.assertFalse("r" in desk)

    def test_the_example(self):
        desk = Desk()
        self.assertEqual([desk.do(*BASE, ("put", "r", (1, 2))), desk.pages("far").total], [1, 0])
        self.assertEqual(desk.do(("put", "s", (2, 5)), ("put", "s", (2, 6)), ("view", "pair", BRIDGE)), 2)
        self.assertEqual([desk.pages("far")[1], desk.total_of("far"), desk.paper("pair")[0], desk.undo(),
                          desk.total_of("far")],
                         [(1, 2, 6), 2, "bridge", 1, 0])

    def test_what_it_tells(self):
        desk = far_desk()
        self.assertEqual([desk.names, list(desk.tables.items()), desk.views, desk.steps, len(desk), str(desk)],
                         [("far", "r", "s"), list(ROWS.items()), {"far": FAR}, 2, 3, "desk of 2 tables, 1 views"])
        self.assertEqual([name in desk for name in ("far", "r", "s", "x", "", "FAR")], [True] * 3 + [False] * 3)
        self.assertEqual([desk.width("r"), desk.pages("far") == Pages(FAR, ROWS), desk.total_of("far"),
                          desk.paper("far")],
                         [2, True, 5, ("order", ("x", "z", "y"))])

    def test_names_and_dicts_are_ascending(self):
        desk = Desk()
        desk.do(("table", "t", 1), ("table", "b", 2), ("view", "z",
                Query((), t=("x",))), ("view", "a", Query((), t=("y",))))
        self.assertEqual([desk.names, list(desk.tables), list(desk.views)],
                         [("a", "b", "t", "z"), ["b", "t"], ["a", "z"]])
        desk.do(("rename", "b", "y"), ("rename", "z", "c"))
        self.assertEqual([desk.names, list(desk.tables), list(desk.views)],
                         [("a", "c", "t", "y"), ["t", "y"], ["a", "c"]])

    def test_rows_are_ascending(self):
        desk = Desk()
        desk.do(("table", "t", 1), *[("put", "t", (number,)) for number in (5, -3, 9, BIG, 0, -BIG, 5)])
        self.assertEqual(desk.tables, {"t": ((-BIG,), (-3,), (0,), (5,), (9,), (BIG,))})
        desk.do(("drop", "t", (0,)), ("drop", "t", (7,)), ("drop", "t", (BIG,)))
        self.assertEqual(desk.tables, {"t": ((-BIG,), (-3,), (5,), (9,))})

    def test_do_and_do_all(self):
        one, other = Desk(), Desk()
        self.assertEqual([one.do(*BASE), other.do_all(BASE), one == other], [1, 1, True])
        self.assertEqual([one.do(), one.do_all(()), one.steps], [1, 1, 1])

    def test_views_see_the_present_rows(self):
        desk = far_desk()
        pages = desk.pages("far")
        desk.do(("put", "s", (1, 9)))
        self.assertEqual([desk.total_of("far"), desk.pages("far")[1], pages.total], [6, (1, 1, 9), 5])
        desk.do(("view", "far", BRIDGE.with_shown("y")))
        self.assertEqual([list(desk.pages("far").walk()), desk.steps], [[(5,), (6,), (9,)], 4])
        desk.undo(many=2)
        self.assertEqual(desk.pages("far"), Pages(FAR, ROWS))

    def test_equal_desks(self):
        desk = far_desk()
        other = Desk(kept=3)
        other.do(("table", "s", 2), ("table", "old", 2),
                 ("view", "far", Query(FAR.shown, old=("x", "z"), s=("z", "y"))))
        other.do(*[("put", "s", row) for row in ROWS["s"]], *[("put", "old", row) for row in ROWS["r"]])
        self.assertTrue(desk != other and not desk == other)
        other.do(("rename", "old", "r"))
        self.assertTrue(desk == other and not desk != other)
        for edit in (("drop", "r", (1, 1)), ("view", "far", ~FAR), ("view", "new", FAR), ("table", "t", 1)):
            twin = other.twin()
            twin.do(edit)
            self.assertTrue(desk != twin and not desk == twin, edit)
        wide, narrow = Desk(), Desk()
        wide.do(("table", "t", 2))
        narrow.do(("table", "t", 1))
        self.assertTrue(wide != narrow and Desk() == Desk(kept=0))
        for value in (FAR, Pages(FAR, ROWS), *[one for one in odd_values() if not isinstance(one, Desk)]):
            self.assertTrue(desk != value and not desk == value)


class Names(Case):
    def test_twenty_names(self):
        desk = far_desk()
        desk.do(*[("table" if at % 2 else "view", "n" + LETTERS[at], 1 if at % 2 else ONE) for at in range(17)])
        self.assertEqual([len(desk), desk.steps], [20, 3])
        before = everything(desk)
        for edit in (("table", "one", 1), ("view", "one", ONE)):
            self.fails(InvalidEdit, desk.do, edit)
            self.fails(InvalidEdit, desk.do, ("put", "r", (0, 0)), edit, ("forget", "one"))
        self.assertEqual(everything(desk), before)
        # Each of these leaves twenty names at most.
        desk.do(("view", "na", FAR), ("rename", "na", "one"),
                ("put", "r", (0, 0)), ("forget", "one"), ("table", "two", 1))
        self.assertEqual([len(desk), desk.width("two")], [20, 1])
        self.fails(InvalidEdit, desk.do, ("view", "three", ONE))
        desk.do(("forget", "two"), ("view", "three", ONE))
        self.assertEqual(len(desk), 20)

    def test_a_table_and_a_view_have_different_names(self):
        desk = far_desk()
        before = everything(desk)
        for edit in (("view", "r", ONE), ("table", "far", 2), ("table", "r", 2), ("rename", "r", "far"),
                     ("rename", "far", "s"),
                     ("rename", "r", "r"), ("rename", "none", "new"), ("forget", "none"), ("view", "far", RING),
                     ("put", "far", (1, 1)), ("drop", "far", (1, 1)), ("put", "none", (1,)), ("drop", "none", ())):
            self.fails(InvalidEdit, desk.do, edit)
        self.assertEqual(everything(desk), before)

    def test_a_table_with_views_stays(self):
        desk = far_desk()
        self.fails(InvalidEdit, desk.do, ("forget", "r"))
        self.fails(InvalidEdit, desk.do, ("view", "other", ONE), ("forget", "far"), ("forget", "r"))
        desk.do(("forget", "far"), ("forget", "r"))
        self.assertEqual([desk.names, desk.tables], [("s",), {"s": ROWS["s"]}])
        desk.undo()
        self.assertEqual([desk.names, desk.pages("far").total], [("far", "r", "s"), 5])

    def test_names_that_come_again(self):
        desk = far_desk()
        desk.do(("forget", "far"), ("forget", "r"), ("table", "far", 3),
                ("view", "r", Query(("a",), far=("a", "b", "c"))))
        self.assertEqual([desk.width("far"), desk.tables["far"], desk.pages("r").total], [3, (), 0])
        desk.do(("put", "far", (1, 2, 3)))
        self.assertEqual([desk.pages("r")[0], desk.undo(many=2), desk.tables,
                         desk.pages("far").total], [(1,), 2, ROWS, 5])

    def test_renamed_tables_and_views(self):
        desk = far_desk()
        desk.do(("view", "one", ONE), ("view", "low", Query(("z", "x"), down=("x",), r=("x", "z"))))
        desk.do(("rename", "r", "new"), ("rename", "far", "near"))
        self.assertEqual(desk.views,
                         {"low": Query(("z", "x"), down=("x",), new=("x", "z")), "one": Query(("x",), new=("x", "z")),
                                      "near": Query(FAR.shown, new=("x", "z"), s=("z", "y"))})
        self.assertEqual([desk.width("new"), desk.tables["new"], desk.pages("near").total,
                          list(desk.pages("low").walk())],
                         [2, ROWS["r"], 5, [(1, 1), (2, 2), (2, 1)]])
        self.keeps(UnknownName, "name", "far", desk.pages, "far")
        self.keeps(UnknownName, "name", "r", desk.width, "r")
        # Two tables change their names with each other, by way of a third name.
        desk.do(("rename", "new", "t"), ("rename", "s", "new"), ("rename", "t", "s"))
        self.assertEqual([desk.views["near"].atoms, desk.tables], [{"s": ("x", "z"), "new": ("z", "y")},
                                                                  {"new": ROWS["s"], "s": ROWS["r"]}])
        desk.undo(many=2)
        self.assertEqual([desk.views["far"], desk.tables], [FAR, ROWS])
        desk.redo(many=2)
        self.assertEqual(desk.pages("near").total, 5)

    def test_views_fit_their_tables(self):
        desk = far_desk()
        desk.do(("table", "t", 1))
        for query in (Query((), t=("x", "y")), Query((), r=("x",)), Query((), far=("x", "y")),
                      Query((), r=("x", "y"), u=("x",)),
                      RING, *odd_except(lambda one: isinstance(one, Query))):
            self.fails(InvalidEdit, desk.do, ("view", "v", query))
            self.fails(InvalidEdit, desk.do, ("view", "far", query))
        desk.do(("view", "far", Query((), t=("x",), r=("x", "y"))))
        self.assertEqual([desk.steps, desk.total_of("far")], [4, 0])

    def test_width_and_rows(self):
        desk = Desk()
        desk.do(("table", "a", 1), ("table", "j", 10), ("put", "j", tuple(range(10))))
        self.assertEqual([desk.width("a"), desk.width("j"), desk.tables["j"]], [1, 10, (tuple(range(10)),)])
        for edit in (("table", "t", 0), ("table", "t", 11), ("table", "t", True), ("put", "a", ()),
                     ("put", "a", (1, 2)),
                     ("put", "a", (True,)), ("drop", "a", ()), ("drop", "a", (1, 2)), ("drop", "j", (1,)),
                     ("put", "a", [1])):
            self.fails(InvalidEdit, desk.do, edit)

    def test_a_thousand_rows(self):
        desk = Desk()
        desk.do(("table", "t", 1), *[("put", "t", (number,)) for number in range(999, -1, -1)])
        self.assertEqual([len(desk.tables["t"]), desk.tables["t"][:2]], [1000, ((0,), (1,))])
        before = state_of(desk)
        self.fails(InvalidEdit, desk.do, ("put", "t", (1000,)))
        self.fails(InvalidEdit, desk.do, ("drop", "t", (1000,)), ("put", "t", (-1,)), ("drop", "t", (0,)))
        self.fails(InvalidEdit, desk.do, ("drop", "t", (0,)), ("put", "t", (-1,)), ("put", "t", (-2,)))
        self.assertEqual([state_of(desk), desk.steps], [before, 1])
        self.assertEqual(desk.do(("put", "t", (7,)), ("drop", "t", (7,)), ("put", "t", (1000,))), 2)
        self.assertEqual([len(desk.tables["t"]), (7,) in desk.tables["t"]], [1000, False])


class Steps(Case):
    def test_undo_and_redo(self):
        desk = far_desk()
        self.assertEqual([desk.undo(), desk.tables, desk.redo(), desk.tables, desk.undo(many=2), desk.names],
                         [1, {"r": (), "s": ()}, 2, ROWS, 0, ()])
        self.assertEqual([desk.redo(many=2), desk.pages("far").total,
                         desk.undo(many=0), desk.redo(many=0)], [2, 5, 2, 2])

    def test_edits_that_change_nothing_are_steps(self):
        desk = far_desk()
        self.assertEqual([desk.do(("put", "r", (1, 1))), desk.do(
            ("drop", "r", (7, 7))), desk.do(("view", "far", FAR))], [3, 4, 5])
        self.assertEqual([desk.undo(many=3), desk.tables, desk.redo(many=2), undone(desk)], [2, ROWS, 4, 1])
        desk.do(("put", "s", (1, 5)), ("drop", "s", (1, 6)))
        self.assertEqual([desk.steps, undone(desk)], [5, 0])

    def test_a_new_step_forgets_the_undone_ones(self):
        desk = far_desk()
        desk.undo()
        desk.do()
        self.assertEqual(undone(desk), 1)
        self.fails(InvalidEdit, desk.do, ("put", "r", (1, 2)), ("put", "r", (1,)))
        self.assertEqual(undone(desk), 1)
        desk.do(("put", "r", (9, 9)))
        self.keeps(NothingToUndo, "many", 1, desk.redo)
        self.assertEqual([desk.steps, desk.tables["r"], desk.undo(), undone(desk)], [2, ((9, 9),), 1, 1])

    def test_a_step_of_which_a_late_edit_is_not_possible(self):
        desk = far_desk()
        desk.undo()
        before = everything(desk)
        for late in (("put", "r", (1,)), ("table", "s", 2), ("forget", "r"), None, ("view", "v", RING)):
            self.fails(InvalidEdit, desk.do, ("put", "r", (1, 2)), ("rename", "s", "t"), ("table", "u", 1),
                       ("rename", "t", "s"),
                       late)
            self.assertEqual(everything(desk), before)

    def test_kept(self):
        desk = far_desk(kept=1)
        self.assertEqual([desk.steps, desk.undo(), desk.names, desk.tables["r"]], [1, 0, ("far", "r", "s"), ()])
        self.keeps(NothingToUndo, "many", 1, desk.undo)
        none = far_desk(kept=0)
        self.assertEqual([none.steps, none.do(("put", "r", (7, 7))),
                         none.undo(many=0), none.total_of("far")], [0, 0, 0, 5])
        self.keeps(NothingToUndo, "many", 1, none.undo)
        great = Desk(kept=1000)
        great.do(("table", "t", 1))
        for number in range(1002):
            many = great.do(("put", "t", (number % 7,)))
        self.assertEqual([many, great.undo(many=1000), great.tables["t"]], [1000, 0, ((0,), (1,))])
        self.assertEqual([great.redo(many=1000), great.tables["t"]], [1000, tuple((number,) for number in range(7))])

    def test_a_hundred_steps_are_kept(self):
        desk = Desk()
        desk.do(("table", "t", 1))
        for number in range(150):
            desk.do(("put", "t", (number,)))
        self.assertEqual([desk.steps, desk.undo(many=100), len(desk.tables["t"])], [100, 0, 50])

    def test_kept_is_assigned(self):
        desk = Desk()
        desk.do(("table", "t", 1))
        for number in range(9):
            desk.do(("put", "t", (number,)))
        desk.undo(many=3)
        self.assertEqual([desk.steps, undone(desk)], [7, 3])
        desk.kept = 2
        self.assertEqual([desk.kept, desk.steps, undone(desk), len(desk.tables["t"])], [2, 2, 3, 6])
        self.assertEqual([desk.redo(many=3), len(desk.tables["t"]),
                         desk.undo(many=2), len(desk.tables["t"])], [2, 9, 0, 7])
        desk.keep(1000)
        self.assertEqual([desk.kept, desk.steps, desk.redo(many=2), desk.do(("put", "t", (70,)))], [1000, 0, 2, 3])
        desk.keep(0)
        self.assertEqual([desk.kept, desk.steps, desk.do(("put", "t", (71,))), len(desk.tables["t"])], [0, 0, 0, 11])

    def test_undone_steps_stay_when_none_are_kept(self):
        desk = far_desk()
        desk.undo()
        desk.kept = 0
        self.assertEqual([desk.steps, undone(desk), desk.redo(), desk.tables, undone(desk)], [0, 1, 0, ROWS, 0])

    def test_against_a_plain_record(self):
        chance, seen = random.Random(1600), {}
        names = ("a", "b", "c", "d", "e", "f", "g")
        for _ in range(60):
            kept = chance.choice((0, 1, 3, 100))
            desk, record = Desk(kept=kept), Record(kept)
            for _ in range(120):
                word = chance.choice(("do",) * 6 + ("undo", "undo", "redo", "keep", "trial"))
                if word == "do":
                    edits = tuple(random_edit(chance, names, record) for _ in range(chance.choice((1, 1, 1, 2, 3))))
                    if record.step(edits):
                        self.assertEqual(desk.do_all(edits), len(record.done))
                        for edit in edits:
                            seen[edit[0]] = seen.get(edit[0], 0) + 1
                    else:
                        word = "wrong"
                        self.fails(InvalidEdit, desk.do_all, edits)
                elif word == "keep":
                    record.kept = chance.choice((0, 1, 2, 5, 1000))
                    record.trim()
                    desk.kept = record.kept
                elif word == "trial":
                    with desk.trial():
                        desk.keep(chance.choice((0, 5)))
                        desk.undo(many=desk.steps)
                        desk.do(("table", "new", 1))
                else:
                    many = chance.randint(0, 2)
                    there = record.done if word == "undo" else record.undone
                    call = desk.undo if word == "undo" else desk.redo
                    if many > len(there):
                        self.keeps(NothingToUndo, "many", many, call, many=many)
                    else:
                        for _ in range(many):
                            record.undo() if word == "undo" else record.redo()
                        record.trim()
                        self.assertEqual(call(many=many), len(record.done))
                seen[word] = seen.get(word, 0) + 1
                self.assertEqual(state_of(desk), record.state())
                self.assertEqual([desk.steps, undone(desk), len(desk)], [
                                 len(record.done), len(record.undone), len(desk.names)])
                self.check_views(desk)
        self.assertGreater(min(seen.values()), 100, seen)

    def check_views(self, desk):
        for name, query in desk.views.items():
            tables = {atom: desk.tables[atom] for atom in query.atoms}
            self.assertTrue(is_tables(query, tables))
            if good_order(query) is not None:
                self.assertEqual(list(desk.pages(name).walk()), list(answers(query, tables)))


class Views(Case):
    def test_a_total_by_another_sort_order(self):
        desk = far_desk()
        desk.do(("view", "trio", TRIO), ("view", "down", TRIO.with_shown("x", "y", "z", down=("y",))))
        self.assertEqual([desk.total_of("trio"), desk.total_of("down"),
                         desk.paper("trio")], [5, 5, ("trio", ("x", "y", "z"))])
        self.keeps(Unsorted, "witness", ("trio", ("x", "y", "z")), desk.pages, "trio")

    def test_no_total(self):
        desk = far_desk()
        desk.do(("table", "t", 2), ("table", "u", 2), ("view", "bridge", BRIDGE))
        desk.do(("view", "ring", Query(("a", "b"), r=("a", "b"), s=("b", "c"), t=("c", "d"), u=("d", "a"))))
        desk.do(("view", "shell", Query((), r=("a", "b"), s=("b", "c"), t=("a", "c"))))
        for name in ("bridge", "ring", "shell"):
            for call in (desk.total_of, desk.pages):
                found = self.fails(Unsorted, call, name).witness
                self.assertTrue(is_witness(desk.views[name], found))
                self.assertEqual(found[0], name)
            self.assertTrue(is_order_paper(desk.views[name], desk.paper(name)))

    def test_a_trio_is_no_witness_against_a_total(self):
        # A query with a trio and a bridge: the total is refused by the bridge.
        query = Query(("x", "y", "z", "w"), r=("x", "z"), s=("z", "y"), t=("y", "h"), u=("h", "w"))
        desk = Desk()
        desk.do(*[("table", name, 2) for name in query.atoms], ("view", "v", query))
        self.assertEqual([word for word, _ in witnesses(query)], ["bridge", "trio"])
        self.assertEqual(self.fails(Unsorted, desk.total_of, "v").witness[0], "bridge")
        self.assertTrue(is_witness(query, self.fails(Unsorted, desk.pages, "v").witness))

    def test_random_views(self):
        chance, seen = random.Random(1601), {"pages": 0, "total": 0, "none": 0}
        for _ in range(300):
            columns = LETTERS[:4]
            atoms = {name: tuple(chance.sample(columns, chance.choice((2, 2, 2, 3))))
                                 for name in "pqrst"[:chance.randint(1, 5)]}
            used = sorted({column for own in atoms.values() for column in own})
            query = Query.of(tuple(chance.sample(used, chance.randint(0, len(used)))), atoms)
            desk = Desk()
            desk.do(*[("table", name, len(own)) for name, own in atoms.items()], ("view", "v", query))
            for name, own in atoms.items():
                desk.do(*[("put", name, tuple(chance.randint(0, 1) for _ in own)) for _ in range(4)])
            rows = list(answers(query, desk.tables))
            self.assertTrue(is_order_paper(query, desk.paper("v")))
            if good_order(query) is not None:
                seen["pages"] += 1
                self.assertEqual(list(desk.pages("v").walk()), rows)
            else:
                self.assertTrue(is_witness(query, self.fails(Unsorted, desk.pages, "v").witness))
            if list(sort_orders(query)):
                seen["total"] += good_order(query) is None
                self.assertEqual(desk.total_of("v"), len(rows))
            else:
                seen["none"] += 1
                found = self.fails(Unsorted, desk.total_of, "v").witness
                self.assertTrue(is_witness(query, found) and found[0] in ("ring", "shell", "bridge"))
        self.assertGreater(min(seen.values()), 15, seen)

    def test_more_answers_than_could_be_listed(self):
        desk = Desk()
        desk.do(*[("table", "t" + one, 1) for one in LETTERS[:10]])
        for one in LETTERS[:10]:
            desk.do(*[("put", "t" + one, (number,)) for number in range(1000)])
        desk.do(("view", "wide", Query.of(LETTERS[:10], {"t" + one: (one,) for one in LETTERS[:10]})))
        self.assertEqual([desk.total_of("wide"), desk.pages("wide")[10 ** 30 - 1], desk.undo(many=2), desk.redo(many=2),
                          desk.pages("wide").position_of((5,) * 10)],
                         [10 ** 30, (999,) * 10, 10, 12, int("005" * 10)])


class Trials(Case):
    def test_nothing_lasts(self):
        desk = far_desk()
        desk.do(("put", "r", (7, 7)))
        desk.undo()
        before = everything(desk)
        with desk.trial() as same:
            self.assertIs(same, desk)
            desk.do(("forget", "far"), ("rename", "r", "q"))
            desk.kept = 1
            desk.undo()
            desk.keep(5)
            desk.do(("put", "r", (8, 8)), ("view", "v", ONE))
            self.assertEqual([desk.names, desk.kept, desk.total_of("v")], [("far", "r", "s", "v"), 5, 3])
        self.assertEqual(everything(desk), before)

    def test_an_error_ends_it(self):
        desk = far_desk()
        before = everything(desk)
        for error in (Stop, InvalidEdit):
            with self.assertRaises(error):
                with desk.trial():
                    desk.do(("forget", "far"))
                    if error is Stop:
                        raise Stop()
                    desk.do(("forget", "far"))
            self.assertEqual(everything(desk), before)

    def test_nested(self):
        desk = far_desk()
        before = everything(desk)
        with desk.trial():
            desk.do(("put", "r", (7, 7)))
            inner = everything(desk)
            with self.assertRaises(Stop):
                with desk.trial() as same:
                    same.undo(many=3)
                    same.keep(0)
                    with desk.trial():
                        desk.do(("table", "t", 1))
                        raise Stop()
            self.assertEqual(everything(desk), inner)
            self.assertEqual(desk.attempt(lambda one: one.do(("forget", "far"))), 4)
            self.assertEqual(everything(desk), inner)
        self.assertEqual(everything(desk), before)

    def test_one_trial_in_itself(self):
        desk = far_desk()
        before, trial = everything(desk), desk.trial()
        with trial:
            desk.do(("put", "r", (7, 7)))
            inner = everything(desk)
            with trial:
                desk.do(("put", "r", (8, 8)))
            self.assertEqual(everything(desk), inner)
        self.assertEqual(everything(desk), before)
        desk.do(("put", "r", (9, 9)))
        later = everything(desk)
        with trial:
            desk.undo(many=3)
        self.assertEqual(everything(desk), later)

    def test_attempts(self):
        desk = far_desk()
        before, seen = everything(desk), []
        self.assertEqual(desk.attempt(lambda one: (one.do(("drop", "r", (2, 2))), one.total_of("far"),
                                                   seen.append(one))),
                         (3, 3, None))
        self.assertIs(seen[0], desk)
        self.assertIsNone(desk.attempt(lambda one: one.keep(3)))
        self.assertEqual(everything(desk), before)

        def action(one):
            one.undo(many=2)
            raise Stop("more")

        with self.assertRaisesRegex(Stop, "more"):
            desk.attempt(action)
        self.fails(InvalidEdit, desk.attempt, lambda one: one.do(("put", "r", (7, 7)), None))
        self.assertEqual(everything(desk), before)

    def test_twins_go_their_own_ways(self):
        desk = far_desk(kept=7)
        desk.do(("put", "r", (7, 7)))
        desk.undo()
        twin = desk.twin()
        self.assertTrue(twin == desk and twin is not desk)
        self.assertEqual(everything(twin), everything(desk))
        before = everything(desk)
        twin.do(("forget", "far"), ("table", "t", 1))
        twin.keep(1)
        self.assertEqual(everything(desk), before)
        after = everything(twin)
        desk.undo(many=2)
        desk.keep(0)
        self.assertEqual([everything(twin), twin.steps, twin.undo(), twin == far_desk()], [after, 1, 0, True])
        with twin.trial():
            desk.do(("table", "u", 1))
            other = twin.twin()
            other.do(("forget", "far"))
        self.assertTrue("u" in desk and "u" not in twin and "far" in twin and "far" not in other)


class Errors(Case):
    def test_wrong_kept(self):
        for value in (-1, 1001, BIG, *odd_except(lambda one: is_whole(one) and 0 <= one <= 1000)):
            self.keeps(InvalidNumber, "value", value, Desk, kept=value)
            desk = far_desk()
            self.keeps(InvalidNumber, "value", value, desk.keep, value)
            with self.assertRaises(InvalidNumber) as caught:
                desk.kept = value
            self.assertIs(caught.exception.value, value)
            self.assertEqual([desk.kept, desk.steps], [100, 2])

    def test_wrong_steps(self):
        desk = far_desk()
        for value in (-1, *odd_except(lambda one: is_whole(one) and one >= 0)):
            self.keeps(InvalidNumber, "value", value, desk.undo, many=value)
            self.keeps(InvalidNumber, "value", value, desk.redo, many=value)
        for value in (3, 4, BIG):
            self.keeps(NothingToUndo, "many", value, desk.undo, many=value)
        for value in (1, 2, BIG):
            self.keeps(NothingToUndo, "many", value, desk.redo, many=value)
        self.assertEqual([desk.steps, desk.tables], [2, ROWS])

    def test_wrong_edits(self):
        desk = far_desk()
        before = everything(desk)
        wrong = [(), ("put",), ("put", "r"), ("put", "r", (1, 2), (1, 2)), ["put", "r", (1, 2)], ("PUT", "r", (1, 2)),
                 ("table", "t"), ("table", "T", 1), ("table", "", 1), ("table", "ninechars", 1), ("table", "t", "1"),
                 ("table", ["t"], 1), (["table"], "t", 1), ({}, "t", 1), ("view", "V", FAR), ("view", "v"), ("forget",),
                 ("forget", "far", "far"), ("rename", "r"), ("rename",
                  "r", "R"), ("rename", "r", ["q"]), ("rename", "r", 1),
                 ("rename", ["r"], "q"), ("forget", ["far"]), ("put", ["r"], (1, 2)), ("put", {}, (1, 2)), ("undo", 1),
                 ("view", {"v": 1}, FAR), ("table", "t", [1]), (None, "r", (1, 2)), (("put",), "r", (1, 2)),
                 *odd_values()]
        for edit in wrong:
            self.fails(InvalidEdit, desk.do, edit)
            self.fails(InvalidEdit, desk.do, ("put", "r", (7, 7)), edit)
        for value in odd_except(lambda one: one in ((1, 2), (2, 1))):
            self.fails(InvalidEdit, desk.do, ("put", "r", value))
            self.fails(InvalidEdit, desk.do, ("drop", "r", value))
        for edits in ([("put", "r", (7, 7))], {("put", "r", (7, 7)): 1},
                      *odd_except(lambda one: one == () and one != {})):
            self.fails(InvalidEdit, desk.do_all, edits)
        self.assertEqual(everything(desk), before)

    def test_unknown_names(self):
        desk = far_desk()
        for name in ("none", *odd_except(lambda one: one in ("r", "s", "far"))):
            for method in (desk.width, desk.pages, desk.paper, desk.total_of):
                self.keeps(UnknownName, "name", name, method, name)
            self.assertFalse(name in desk)
        for name in ("r", "s"):
            for method in (desk.pages, desk.paper, desk.total_of):
                self.keeps(UnknownName, "name", name, method, name)
        self.keeps(UnknownName, "name", "far", desk.width, "far")

    def test_not_iterated(self):
        for value in (far_desk(), far_desk().trial()):
            for call in (iter, list, lambda one: [*one]):
                self.fails(TypeError, call, value)

    def test_no_access(self):
        desk = far_desk()
        desk.tables.clear()
        desk.views["other"] = TRIO
        self.assertEqual([desk.tables, desk.views], [ROWS, {"far": FAR}])
        tables = desk.pages("far").tables
        tables["r"] = ()
        self.assertEqual(desk.pages("far").total, 5)
        with self.assertRaises(AttributeError):
            desk.names = ()


if __name__ == "__main__":
    unittest.main()
