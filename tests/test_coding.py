from random import Random

from helpers import Arg, Case, WrongCase
from everycut.base.names import name_cell
from everycut.errors import InvalidBlock, InvalidRow, InvalidTree, Refused, TooMany
from everycut.plain import coding, trees
from everycut.plain.coding import (
    MOST_DEED, deed_cells, deed_told, facts_of_rows, row_changes, rows_fault, rows_of_tree, tree_of_rows)
from everycut.plain.deeds import is_deed
from everycut.plain.trees import Tree, changes, done, facts_fault
from everycut.rows.cells import are_rows, changes_between, rows_changed
from plain_helpers import Model, deed_arg, done_deeds, some_deed, tree_arg

EXAMPLES = '''
>>> A = done(done(Tree(), 1, ("folder", ("a",))), 2, ("make", ("a", "b")))
>>> B = done(A, 3, ("write", ("a", "b"), 7, (5, 6)))
>>> rows_of_tree(A)
(((1, 16), (1,)), ((1, 32), (0,)), ((2, 0, 10460353203), (16,)), ((2, 16, 20920706406), (32,)), ((3, 32), (0,)))
>>> [tree_of_rows(rows_of_tree(B)) == B, row_changes(changes(A, 3, ("write", ("a", "b"), 7, (5, 6)))), rows_fault(rows_of_tree(A)[1:]), rows_fault((((1, 16), (2,)),))]
[True, {(3, 32): (9,), (4, 32, 0): (0, 0, 0, 0, 0, 0, 0, 5), (4, 32, 1): (6, 0, 0, 0, 0, 0, 0, 0)}, ('name', 0, 'a'), ('row', (1, 16))]
>>> [deed_cells(("write", ("a",), 4, (7, 8))), deed_told((8, 10460353203)), deed_told((11, 0)), deed_cells(("all", (("drop", ("a",)), ("cut", ("b",), 0))))]
[(3, 1, 10460353203, 4, 2, 7, 8), ('snap', 'a'), None, (12, 2, 6, 1, 10460353203, 4, 1, 20920706406, 0)]
>>> facts_of_rows((((1, 16), (2,)), ((3, 16), (0,)), ((4, 16, 12), (1,))))
({('size', 16): 0}, ((1, 16), (4, 16, 12)))
>>> tree_of_rows((((3, 16), (0,)),))
raises Refused(('size', 16))
'''

MILLIARD = 10 ** 9
LAST_NODE = 16 * 10 ** 12 + 15
LAST_CELL = 10 ** 18 - 1
A, B = 10460353203, 20920706406
PIECE = (1, 0, 0, 0, 0, 0, 0, 0)
EIGHT = ("a", "bb", "ccc", "dddd", "eeeee", "ffffff", "ggggggg", "zzzzzzzz")


def slow_rows(facts):
    """The rows of facts, straight as [10.1] says."""
    found = {}
    for key, value in facts.items():
        if key[0] == "kind":
            found[(1, key[1])] = ({"folder": 1, "file": 0}[value],)
        elif key[0] == "name":
            found[(2, key[1], name_cell(key[2]))] = (value,)
        elif key[0] == "size":
            found[(3, key[1])] = (value,)
        else:
            found[(4, key[1], key[2])] = value
    return tuple(sorted(found.items()))


def some_trees(rng):
    """Trees with files of no, one and 96 numbers, several entries and shots, among others."""
    tree = done(done(Tree(), 1, ("make", ("a",))), 2, ("link", ("a",), ("b",)))
    yield Tree()
    yield tree
    yield done(tree, 3, ("write", ("b",), 0, (7,)))
    for start in (0, 32, 64):
        tree = done(tree, 3 + start, ("write", ("a",), start, (MILLIARD - 1,) * 32))
    yield tree
    tree = done(done(tree, 200, ("snap", "s")), 201, ("drop", ("a",)))
    yield tree
    yield done(tree, 202, ("snap", "r"))
    for _ in range(40):
        yield done_deeds(rng, rng.randrange(60))[1]
    yield Tree.of_facts({("kind", LAST_NODE): "file", ("name", 0, "zzzzzzzz"): LAST_NODE, ("size", LAST_NODE): 96})


class Rows(Case):
    def test_examples(self):
        self.examples(EXAMPLES, {**vars(trees), **vars(coding)})

    def test_there_and_back(self):
        for tree in some_trees(Random(100)):
            rows = rows_of_tree(tree)
            self.assertTrue(are_rows(rows))
            self.same(rows, slow_rows(tree.facts))
            self.same(rows_fault(rows), None)
            back = tree_of_rows(rows)
            self.same([back.facts, back.shots, back.weight], [tree.facts, (), len(tree.facts)])
            self.same(facts_of_rows(rows), (tree.facts, ()))
            for name in tree.shots:
                self.same(rows_of_tree(tree.shot(name)), slow_rows(tree.shot(name).facts))

    def test_most_rows(self):
        facts = {}
        for at in range(1001):
            facts[("kind", at + 1)] = "folder"
            facts[("name", 0, "".join("abcdefghij"[int(figure)] for figure in f"{at:04d}"))] = at + 1
        self.refuses(TooMany, 2000, lambda: rows_of_tree(Tree.of_facts(facts)))
        less = {key: value for key, value in facts.items() if value != 1001 and key != ("kind", 1001)}
        rows = rows_of_tree(Tree.of_facts(less))
        self.same([len(rows), tree_of_rows(rows).rows], [2000, 2000])

    def fault(self, rows, fault):
        rows = tuple(sorted(rows))
        self.assertTrue(are_rows(rows))
        self.same(rows_fault(rows), fault)
        if fault is None:
            self.same(rows_of_tree(tree_of_rows(rows)), rows)
        else:
            self.refuses(Refused, fault, lambda: tree_of_rows(rows))

    def test_forms(self):
        good = {(1, 16): (0,), (2, 0, A): (16,), (3, 16): (1,), (4, 16, 0): PIECE}
        self.fault(good.items(), None)
        for key, value in (((0, 16), (1,)), ((5, 16), (1,)), ((LAST_CELL,), (1,)), ((1,), (0,)), ((1, 32, 0), (0,)), ((1, 32), (2,)),
                           ((1, 32), (0, 0)), ((1, 32), (LAST_CELL,)), ((1, 0), (1,)), ((1, LAST_NODE + 1), (0,)),
                           ((2, 0), (16,)), ((2, 0, 27), (16,)), ((2, 0, 0), (16,)), ((2, 0, A + 1), (16,)), ((2, 0, LAST_CELL), (16,)),
                           ((2, 0, 27 ** 8 + A), (16,)), ((2, LAST_NODE + 1, B), (16,)), ((2, 0, B), (0,)), ((2, 0, B), (16, 16)),
                           ((2, 0, B), (LAST_NODE + 1,)), ((3, 32), (97,)), ((3, 32), (1, 1)), ((3, 0), (1,)), ((3, 32, 0), (1,)),
                           ((4, 32), PIECE), ((4, 32, 12), PIECE), ((4, 32, 0), PIECE[:7]), ((4, 32, 0), (0,) * 8),
                           ((4, 32, 0), (MILLIARD,) + PIECE[1:]), ((4, 0, 0), PIECE), ((4, LAST_NODE + 1, 0), PIECE),
                           ((4, 32, 0), (1,)), ((2, 16, 16), (16,)), ((3,), (1,)), ((4,), PIECE), ((2,), (16,))):
            self.fault({**good, key: value}.items(), ("row", key))
            self.same(facts_of_rows(tuple(sorted({**good, key: value}.items()))),
                      ({("kind", 16): "file", ("name", 0, "a"): 16, ("piece", 16, 0): PIECE, ("size", 16): 1}, (key,)))
        self.fault([((1, LAST_NODE), (1,)), ((2, 0, name_cell("zzzzzzzz")), (LAST_NODE,))], None)
        self.fault([((1, 1), (0,)), ((2, 0, A), (1,)), ((3, 1), (96,)), ((4, 1, 11), (MILLIARD - 1,) * 8)], None)

    def test_faults_of_facts(self):
        good = {(1, 16): (0,), (2, 0, A): (16,), (3, 16): (9,), (4, 16, 1): PIECE}
        for more, fault in (({(2, 0, B): (17,)}, ("name", 0, "b")), ({(2, 16, B): (16,)}, ("name", 16, "b")),
                            ({(1, 17): (1,)}, ("kind", 17)), ({(3, 17): (1,)}, ("size", 17)), ({(4, 17, 0): PIECE}, ("piece", 17, 0)),
                            ({(4, 16, 1): PIECE[::-1]}, ("piece", 16, 1)), ({(1, 17): (0,), (2, 0, B): (17,)}, ("nosize", 17)),
                            ({(1, 17): (1,), (2, 17, B): (17,)}, ("ring", 17)), ({}, None)):
            self.fault({**good, **more}.items(), fault)
            self.same(facts_fault(facts_of_rows(tuple(sorted({**good, **more}.items())))[0]), fault)

    def test_two_faults_at_once(self):
        bad = {(3, 16): (97,), (2, 0, 27): (1,), (4, 16, 5): (0,) * 8, (1, 17): (1,)}
        self.fault(bad.items(), ("row", (2, 0, 27)))
        self.same(facts_of_rows(tuple(sorted(bad.items()))), ({("kind", 17): "folder"}, ((2, 0, 27), (3, 16), (4, 16, 5))))
        self.fault({(1, 17): (1,), (4, 17, 5): (0,) * 8}.items(), ("row", (4, 17, 5)))
        self.fault({(1, 17): (1,), (3, 18): (5,)}.items(), ("kind", 17))
        self.fault([((9,), (9,)), ((9, 0), (9,))], ("row", (9,)))

    def test_facts_of_drawn_rows(self):
        rng = Random(101)
        for _ in range(500):
            rows = {}
            for _ in range(rng.randrange(8)):
                key = (rng.choice((1, 1, 2, 2, 3, 4, 5)), rng.choice((0, 16, 32)), rng.choice((0, 5, 11, A, B)))
                value = rng.choice(((0,), (1,), (2,), (16,), (32,), PIECE, (0,) * 8))
                rows[key[:rng.choice((2, 3))]] = value
            rows = tuple(sorted(rows.items()))
            facts, others = facts_of_rows(rows)
            self.same(tuple(sorted(slow_rows(facts) + tuple(row for row in rows if row[0] in others))), rows)
            for row in rows:
                self.assertEqual(row[0] in others, (rows_fault((row,)) or ("",))[0] == "row")
            self.same(rows_fault(rows), ("row", others[0]) if others else facts_fault(facts))
            self.same(list(facts), sorted(facts))


class Changes(Case):
    def test_of_deeds(self):
        rng = Random(102)
        for _ in range(8):
            for number_, deed, tree in done_deeds(rng, 40)[0]:
                behind = done(tree, number_, deed)
                told = row_changes(changes(tree, number_, deed))
                self.same(rows_changed(rows_of_tree(tree), told), rows_of_tree(behind))
                self.same(told, changes_between(rows_of_tree(tree), rows_of_tree(behind)))

    def test_of_each_form(self):
        self.same(row_changes({}), {})
        self.same(row_changes({("size", 16): None, ("piece", 16, 11): PIECE, ("name", 0, "b"): 16, ("name", 0, "a"): None,
                               ("kind", 16): "file", ("kind", 17): "folder", ("kind", 18): None, ("size", 17): 96, ("piece", 1, 0): None}),
                  {(1, 16): (0,), (1, 17): (1,), (1, 18): None, (2, 0, A): None, (2, 0, B): (16,), (3, 16): None, (3, 17): (96,),
                   (4, 1, 0): None, (4, 16, 11): PIECE})
        many = {("kind", at): None for at in range(1, 2001)}
        self.same(len(row_changes(many)), 2000)
        self.refuses(InvalidTree, None, lambda: row_changes({**many, ("kind", 2001): None}))

    def test_wrong(self):
        for key, value in ((("kind", 16), "What"), (("kind", 0), "folder"), (("kind", True), None), (("kind", LAST_NODE + 1), None),
                           (("name", 0, "A"), None), (("name", -1, "a"), 16), (("name", 0, "a"), 0), (("name", 0), 16),
                           (("name", 0, "a"), True), (("size", 16), 97), (("size", 16), False), (("size", 0), None),
                           (("piece", 16, 12), None), (("piece", 16, 0), (0,) * 8), (("piece", 16, 0), PIECE[:7]),
                           (("piece", 16, 0), list(PIECE)), (("piece", 16, 0), (MILLIARD,) * 8), (("names", 0), None), ((), None),
                           (("piece", 16, -1), None), (("nosize", 16), None), ("kind", None), (None, None), ((1, 16), (0,)), (1, 1)):
            self.refuses(InvalidTree, None, lambda: row_changes({key: value}))
            self.refuses(InvalidTree, None, lambda: row_changes({("kind", 3): None, key: value}))


def slow_cells(deed):
    """The cells of a deed, straight as [10.4] says."""
    words = "make folder write cut link drop move snap unsnap back order all".split()
    cells = [1 + words.index(deed[0])]
    if deed[0] in ("snap", "unsnap", "back"):
        cells.append(name_cell(deed[1]))
    elif deed[0] == "all":
        cells.append(len(deed[1]))
        for part in deed[1]:
            cells.extend(slow_cells(part))
    else:
        for member in deed[1:]:
            if type(member) is int:
                cells.append(member)
            else:
                cells.append(len(member))
                cells.extend(name_cell(one) if type(one) is str else one for one in member)
    return tuple(cells)


SMALLEST = [("make", ("a",)), ("folder", ("a",)), ("write", ("a",), 0, (0,)), ("cut", ("a",), 0), ("link", ("a",), ("a",)),
            ("drop", ("a",)), ("move", ("a",), ("a",)), ("snap", "a"), ("unsnap", "a"), ("back", "a"), ("order",),
            ("all", (("make", ("a",)), ("make", ("a",))))]
GREATEST = [("make", EIGHT), ("folder", EIGHT), ("write", EIGHT, 96, (MILLIARD - 1,) * 32), ("cut", EIGHT, 96),
            ("link", EIGHT, ("zzzzzzzz",) * 8), ("drop", EIGHT), ("move", ("zzzzzzzz",) * 8, EIGHT), ("snap", "zzzzzzzz"),
            ("unsnap", "zzzzzzzz"), ("back", "zzzzzzzz"), ("order",), ("all", (("write", EIGHT, 96, (MILLIARD - 1,) * 32),) * 6)]


class Deeds(Case):
    def test_smallest_and_greatest(self):
        self.same(MOST_DEED, 400)
        for deed in SMALLEST + GREATEST:
            self.same(deed_cells(deed), slow_cells(deed))
            self.same(deed_told(deed_cells(deed)), deed)
        self.same([len(deed_cells(deed)) for deed in SMALLEST], [3, 3, 6, 4, 5, 3, 5, 2, 2, 2, 1, 8])
        self.same([len(deed_cells(deed)) for deed in GREATEST], [10, 10, 44, 11, 19, 10, 19, 2, 2, 2, 1, 266])

    def test_drawn(self):
        rng = Random(103)
        model = done_deeds(rng, 50)[2]
        seen = {}
        for at in range(1500):
            deed = some_deed(rng, model if at % 2 else Model(), bars=4)
            cells = deed_cells(deed)
            self.same(cells, slow_cells(deed))
            self.same(deed_told(cells), deed)
            self.assertIn(seen.setdefault(cells, deed), (deed,))

    def told_as_itself(self, cells):
        deed = deed_told(cells)
        if deed is not None:
            self.assertTrue(is_deed(deed))
            self.same(slow_cells(deed), cells)
        return deed is not None

    def test_cells_that_are_changed(self):
        rng = Random(104)
        model = done_deeds(rng, 30)[2]
        told = 0
        for deed in SMALLEST + GREATEST + [some_deed(rng, model, bars=4) for _ in range(60)]:
            cells = deed_cells(deed)
            for at in range(len(cells)):
                self.assertIsNone(deed_told(cells[:at]))
                for new in (0, 1, 2, 6, 7, 8, 9, 12, 13, 32, 33, 96, 97, A, B, A + 1, MILLIARD - 1, MILLIARD, LAST_CELL, cells[at] + 1):
                    told += self.told_as_itself(cells[:at] + (new,) + cells[at + 1:])
                self.told_as_itself(cells[:at] + cells[at + 1:])
                self.told_as_itself(cells[:at] + (1,) + cells[at:])
            for more in (0, 1, A):
                self.assertIsNone(deed_told(cells + (more,)))
        self.assertGreater(told, 1000)

    def test_cells_of_none(self):
        for cells in ((), (0,), (13,), (LAST_CELL,), (11, 0), (12, 0), (12, 1, 6, 1, A), (12, 2, 8, A, 8, A), (12, 2, 11, 11),
                      (12, 2, 12, 2, 6, 1, A, 6, 1, A, 6, 1, A), (12, 7) + (6, 1, A) * 7, (1, 0), (1, 9) + (A,) * 9, (1, 1, 27),
                      (8, 27), (8,), (8, 0), (3, 1, A, 97, 1, 0), (3, 1, A, 0, 0), (3, 1, A, 0, 33) + (0,) * 33,
                      (3, 1, A, 0, 1, MILLIARD), (4, 1, A, 97), (5, 1, A, 0), (5, 1, A), (1, LAST_CELL), (12, LAST_CELL), (12, 400) * 200,
                      (12, 2) * 200, (1, 1, 27 ** 8 + A), (0, 1, A)):
            self.assertIsNone(deed_told(cells))


class Wrong(WrongCase):
    def test_wrong_arguments(self):
        rows = Arg((((1, 16), (1,)), ((2, 0, A), (16,))), are_rows, InvalidRow,
                   [[], (((2,), (1,)), ((1,), (1,))), (((1,), ()),), (((1,), (True,)),), (((), (1,)),), ((1,), (1,)), {(1,): (1,)}])
        for function in (tree_of_rows, rows_fault, facts_of_rows):
            self.wrong_calls(function, [rows])
        self.wrong_calls(rows_of_tree, [tree_arg(Tree())])
        self.wrong_calls(deed_cells, [deed_arg(("order",))])
        told = Arg((1,), lambda value: type(value) is tuple and len(value) <= 400 and all(type(one) is int and 0 <= one <= LAST_CELL
                                                                                          for one in value),
                   InvalidBlock, [(0,) * 401, (True,), (-1,), (LAST_CELL + 1,), [1], ("1",), ((1,),), {1: 1}])
        self.wrong_calls(deed_told, [told])
        self.same(deed_told((0,) * 400), None)
        asked = Arg({}, lambda value: value == {} and type(value) is dict, InvalidTree, [(), {("kind", 16): 1}])
        self.wrong_calls(row_changes, [asked])

    def test_nothing_is_shared(self):
        rows = (((1, 16), (1,)), ((2, 0, A), (16,)))
        facts_of_rows(rows)[0].clear()
        self.same(len(facts_of_rows(rows)[0]), 2)
        told = {("kind", 16): "file"}
        row_changes(told).clear()
        self.same(told, {("kind", 16): "file"})
