from random import Random

from helpers import Arg, Case, WrongCase, anything, number, raised
from everycut.errors import InvalidName, InvalidNumber, InvalidTree, Refused, UnknownName
from everycut.base.names import is_path
from everycut.plain import trees
from everycut.plain.deeds import is_deed
from everycut.plain.trees import Tree, changes, done, facts_fault, growth, refusal
from plain_helpers import Model, deed_arg, done_deeds, full_tree, some_deed, tree_arg

EXAMPLES = '''
>>> A = done(done(Tree(), 1, ("folder", ("a",))), 2, ("make", ("a", "f")))
>>> B = done(A, 3, ("write", ("a", "f"), 2, (7, 8)))
>>> [B.paths(), B.node_at(("a", "f")), B.numbers_of(32), B.facts[("piece", 32, 0)], B.rows, B.weight, str(B)]
[(('a',), ('a', 'f')), 32, (0, 0, 7, 8), (0, 0, 7, 8, 0, 0, 0, 0), 6, 6, 'tree of 3 nodes, 0 shots']
>>> [refusal(B, 4, ("drop", ("a",))), refusal(B, 4, ("move", ("a",), ("a", "b"))), refusal(B, 4, ("make", ("b", "c"))), refusal(B, 4, ("all", (("make", ("c",)), ("make", ("c",)))))]
[('full', ('a',)), ('ring',), ('gone', ('b',)), ('all', 1, ('there', ('c',)))]
>>> changes(B, 4, ("cut", ("a", "f"), 2))
{('piece', 32, 0): None, ('size', 32): 2}
>>> C = done(B, 4, ("link", ("a", "f"), ("g",)))
>>> D = done(C, 5, ("drop", ("a", "f")))
>>> [C.rows, D.paths(), D.rows, D.weight, refusal(D, 6, ("make", ("h",)), room=9), refusal(D.weighed(), 6, ("make", ("h",)), room=9), facts_fault({("kind", 16): "file"})]
[7, (('a',), ('g',)), 6, 7, ('room',), None, ('kind', 16)]
>>> done(B, 4, ("folder", ("a", "f", "b")))
raises Refused(('file', ('a', 'f')))
'''


MILLIARD = 10 ** 9


def tree_of(*deeds):
    """The tree behind some deeds with the numbers 1, 2 and so on."""
    tree = Tree()
    for at, deed in enumerate(deeds):
        tree = done(tree, at + 1, deed)
    return tree


# The folders a, a/b and c, the file f (1 to 10) in a and as g at the top, and the empty file e.
SOME = tree_of(("folder", ("a",)), ("folder", ("a", "b")), ("folder", ("c",)), ("make", ("a", "f")),
               ("write", ("a", "f"), 0, tuple(range(1, 11))), ("link", ("a", "f"), ("g",)), ("make", ("e",)))
EIGHT = ("a", "b", "c", "d", "e", "f", "g", "h")


class Deeds(Case):
    def test_examples(self):
        self.examples(EXAMPLES, {**vars(trees)})

    def test_constants(self):
        self.same(trees.MAX_SHOTS, 6)

    def refused(self, tree, table):
        for deed, reason in table:
            self.assertTrue(is_deed(deed), deed)
            self.same(refusal(tree, 100, deed), reason)
            for function in (done, growth, changes):
                self.refuses(Refused, reason, lambda: function(tree, 100, deed))

    def test_along_a_path(self):
        top, gone, file = ("gone", ("x",)), ("gone", ("a", "x")), ("file", ("a", "f"))
        for word, more in (("write", (0, (1,))), ("cut", (0,)), ("link", (("n",),)), ("drop", ()), ("move", (("n",),))):
            self.refused(SOME, [((word, ("x",)) + more, top), ((word, ("x", "y", "z")) + more, top),
                                ((word, ("a", "x")) + more, gone), ((word, ("a", "x", "f")) + more, gone),
                                ((word, ("a", "f", "x")) + more, file), ((word, ("a", "f", "x", "y")) + more, file),
                                ((word, ("g", "f")) + more, ("file", ("g",)))])
        for deed in (("make",), ("folder",), ("link", ("e",)), ("move", ("e",)), ("move", ("c",))):
            self.refused(SOME, [(deed + (("x", "y"),), top), (deed + (("a", "x", "y"),), gone),
                                (deed + (("a", "f", "x"),), file), (deed + (("a", "f", "x", "y"),), file),
                                (deed + (("g", "y"),), ("file", ("g",)))])

    def test_refusals_of_each_word(self):
        self.refused(SOME, [
            (("make", ("a",)), ("there", ("a",))), (("make", ("a", "f")), ("there", ("a", "f"))),
            (("folder", ("a", "b")), ("there", ("a", "b"))), (("folder", ("g",)), ("there", ("g",))),
            (("write", ("a", "b"), 0, (1,)), ("folder", ("a", "b"))), (("cut", ("c",), 0), ("folder", ("c",))),
            (("write", ("e",), 96, (1,)), ("long",)), (("write", ("e",), 65, (1,) * 32), ("long",)),
            (("link", ("a",), ("n",)), ("folder", ("a",))), (("link", ("g",), ("e",)), ("there", ("e",))),
            (("link", ("g",), ("c",)), ("there", ("c",))), (("link", ("g",), ("g",)), ("there", ("g",))),
            (("drop", ("a",)), ("full", ("a",))),
            (("move", ("g",), ("c",)), ("folder", ("c",))), (("move", ("a",), ("c",)), ("there", ("c",))),
            (("move", ("c",), ("e",)), ("there", ("e",))), (("move", ("a", "b"), ("a",)), ("there", ("a",))),
            (("move", ("a",), ("a", "n")), ("ring",)), (("move", ("a",), ("a", "b", "n")), ("ring",)),
            (("unsnap", "s"), ("snapshot", "s")), (("back", "s"), ("snapshot", "s")),
        ])
        self.refused(done(SOME, 8, ("snap", "s")), [(("snap", "s"), ("snapshot", "s"))])

    def test_two_reasons_at_once(self):
        self.refused(SOME, [
            (("make", ("x", "f")), ("gone", ("x",))),
            (("write", ("c",), 96, (1,)), ("folder", ("c",))), (("write", ("x",), 96, (1,)), ("gone", ("x",))),
            (("link", ("x",), ("y", "n")), ("gone", ("x",))), (("link", ("a",), ("y", "n")), ("gone", ("y",))),
            (("link", ("a",), ("c",)), ("folder", ("a",))), (("link", ("a",), ("g", "n")), ("file", ("g",))),
            (("move", ("x",), ("y", "n")), ("gone", ("x",))), (("move", ("e", "x"), ("y", "n")), ("file", ("e",))),
            (("move", ("a",), ("a", "x", "y")), ("gone", ("a", "x"))), (("move", ("a",), ("a", "f", "y")), ("file", ("a", "f"))),
            (("move", ("a",), ("a", "b")), ("there", ("a", "b"))), (("move", ("a",), ("a", "f")), ("there", ("a", "f"))),
        ])
        deep = SOME
        for depth in range(6):
            deep = done(deep, 8 + depth, ("folder", ("c",) * (depth + 2)))
        # Below itself it would have too many names, too.
        self.refused(deep, [(("move", ("c",), ("c",) * 8), ("ring",)), (("move", ("c",), ("c", "c")), ("there", ("c", "c")))])
        full = deep
        for at in range(6):
            full = done(full, 20 + at, ("snap", "stuvwx"[at]))
        self.refused(full, [(("snap", "s"), ("snapshot", "s"))])
        self.same(refusal(full, 30, ("make", ("a",)), room=0), ("there", ("a",)))

    def test_depths(self):
        tree = Tree()
        for depth in range(1, 9):
            tree = done(tree, depth, ("folder", EIGHT[:depth]))
        self.same(tree.node_at(EIGHT), 16 * 8)
        tree = done(tree, 9, ("folder", ("z",)))
        self.refused(tree, [(("move", ("a",), ("z", "a")), ("long",))])
        moved = done(tree, 10, ("move", ("a", "b"), ("z", "b")))
        self.same(moved.node_at(("z",) + EIGHT[1:]), 16 * 8)
        moved = done(tree, 10, ("move", ("a", "b"), ("y",)))
        self.same(moved.node_at(("y",) + EIGHT[2:]), 16 * 8)
        self.refused(moved, [(("move", ("y",), ("a", "z", "y")), ("gone", ("a", "z")))])
        moved = done(done(moved, 11, ("move", ("z",), ("a", "z"))), 12, ("drop", ("y",) + EIGHT[2:]))
        self.same(refusal(moved, 13, ("move", ("y",), ("a", "z", "y"))), None)
        self.same(done(moved, 13, ("move", ("y",), ("a", "z", "y"))).node_at(("a", "z", "y") + EIGHT[2:7]), 16 * 7)
        # A file of a folder counts as a name of a path.
        filed = done(moved, 14, ("make", ("y",) + EIGHT[2:]))
        self.refused(filed, [(("move", ("y",), ("a", "z", "y")), ("long",))])
        self.same(refusal(filed, 15, ("link", ("y",) + EIGHT[2:], ("a", "z", "f"))), None)
        empty = done(filed, 15, ("folder", ("w",)))
        for depth in range(2, 9):
            empty = done(empty, 14 + depth, ("folder", ("w",) * depth))
        self.same(refusal(empty, 40, ("move", ("a", "z"), ("w",) * 7 + ("z",))), None)
        self.same(refusal(empty, 40, ("move", ("a",), ("w",) * 7 + ("z",))), ("long",))

    def test_makes(self):
        tree = tree_of(("make", ("a",)), ("folder", ("b",)), ("make", ("b", "c")))
        self.same(tree.facts, {("kind", 16): "file", ("kind", 32): "folder", ("kind", 48): "file", ("name", 0, "a"): 16,
                               ("name", 0, "b"): 32, ("name", 32, "c"): 48, ("size", 16): 0, ("size", 48): 0})
        self.same([tree.numbers_of(16), tree.names_in(32), tree.names_in(0)], [(), ("c",), ("a", "b")])
        self.same(done(tree, 10 ** 12, ("make", EIGHT[2:3])).node_at(("c",)), 16 * 10 ** 12)

    def test_writes(self):
        tree = tree_of(("make", ("f",)))
        for start, numbers, file, pieces in (
                (0, (5,), (5,), {0: (5,)}), (8, (5,), (0,) * 8 + (5,), {1: (5,)}), (3, (0, 0), (0,) * 5, {}),
                (7, (1, 2), (0,) * 7 + (1, 2), {0: (0,) * 7 + (1,), 1: (2,)}), (96 - 32, (9,) * 32, (0,) * 64 + (9,) * 32,
                                                                              {at: (9,) * 8 for at in range(8, 12)}),
                (95, (4,), (0,) * 95 + (4,), {11: (0,) * 7 + (4,)})):
            behind = done(tree, 2, ("write", ("f",), start, numbers))
            self.same(behind.numbers_of(16), file)
            got = {key[2]: value for key, value in behind.facts.items() if key[0] == "piece"}
            self.same(got, {at: piece + (0,) * (8 - len(piece)) for at, piece in pieces.items()})
        tree = done(tree, 2, ("write", ("f",), 0, tuple(range(1, 21))))
        for start, numbers in ((0, (0,) * 20), (0, (0,) * 8), (8, (0,) * 8), (19, (7,)), (20, (7,)), (21, (7,)), (40, (7, 0)),
                               (5, (0,) * 20), (16, (0,) * 4), (16, (0,) * 3), (0, (MILLIARD - 1,))):
            old = list(range(1, 21)) + [0] * max(0, start + len(numbers) - 20)
            old[start:start + len(numbers)] = numbers
            behind = done(tree, 3, ("write", ("f",), start, numbers))
            self.same(behind.numbers_of(16), tuple(old))
            self.same(facts_fault(behind.facts), None)
        full = tree_of(("make", ("f",)), ("write", ("f",), 64, (1,) * 32))
        self.same([len(full.numbers_of(16)), refusal(full, 9, ("write", ("f",), 64, (2,) * 32))], [96, None])
        self.same(refusal(full, 9, ("write", ("f",), 65, (2,) * 32)), ("long",))
        self.same(refusal(full, 9, ("write", ("f",), 96, (2,))), ("long",))

    def test_cuts(self):
        tree = tree_of(("make", ("f",)), ("write", ("f",), 0, (1, 2, 3, 4, 5, 6, 7, 0, 0, 0, 3, 4, 5, 6, 7, 8, 9)))
        numbers = tree.numbers_of(16)
        for size in range(97):
            behind = done(tree, 3, ("cut", ("f",), size))
            self.same(behind.numbers_of(16), numbers[:size])
            self.same(facts_fault(behind.facts), None)
        self.same(changes(tree, 3, ("cut", ("f",), 9)), {("piece", 16, 1): None, ("piece", 16, 2): None, ("size", 16): 9})
        self.same(changes(tree, 3, ("cut", ("f",), 11)),
                  {("piece", 16, 1): (0, 0, 3, 0, 0, 0, 0, 0), ("piece", 16, 2): None, ("size", 16): 11})
        self.same(changes(tree, 3, ("cut", ("f",), 17)), {})

    def test_files_with_several_entries(self):
        tree = tree_of(("make", ("f",)), ("write", ("f",), 0, (7,)), ("folder", ("a",)), ("link", ("f",), ("a", "g")),
                       ("link", ("a", "g"), ("h",)))
        self.same([tree.paths(), len(tree), tree.rows], [(("a",), ("a", "g"), ("f",), ("h",)), 3, 8])
        one = done(tree, 6, ("drop", ("f",)))
        self.same([one.kind_of(16), one.numbers_of(16), one.paths()], ["file", (7,), (("a",), ("a", "g"), ("h",))])
        two = done(one, 7, ("drop", ("a", "g")))
        self.same([two.kind_of(16), two.paths()], ["file", (("a",), ("h",))])
        three = done(two, 8, ("drop", ("h",)))
        self.same([three.kind_of(16), three.facts], [None, {("kind", 48): "folder", ("name", 0, "a"): 48}])
        self.same(changes(two, 8, ("drop", ("h",))),
                  {("kind", 16): None, ("name", 0, "h"): None, ("piece", 16, 0): None, ("size", 16): None})
        # Moved onto another entry of its own, and to itself.
        own = done(tree, 6, ("move", ("f",), ("h",)))
        self.same([own.paths(), own.node_at(("h",)), own.numbers_of(16)], [(("a",), ("a", "g"), ("h",)), 16, (7,)])
        self.same(changes(tree, 6, ("move", ("f",), ("h",))), {("name", 0, "f"): None})
        self.same(done(tree, 6, ("move", ("f",), ("f",))) == tree, True)
        self.same(changes(tree, 6, ("move", ("a",), ("a",))), {})
        # Onto an entry of another file, which has one more entry, and then onto the last one.
        other = done(done(tree, 6, ("make", ("n",))), 7, ("link", ("n",), ("m",)))
        other = done(other, 8, ("move", ("a", "g"), ("n",)))
        self.same([other.node_at(("n",)), other.node_at(("m",)), other.kind_of(96)], [16, 96, "file"])
        other = done(other, 9, ("move", ("f",), ("m",)))
        self.same([other.node_at(("m",)), other.kind_of(96), other.paths()], [16, None, (("a",), ("h",), ("m",), ("n",))])

    def test_moves_of_folders(self):
        moved = done(SOME, 8, ("move", ("a",), ("c", "n")))
        self.same(moved.paths(), (("c",), ("c", "n"), ("c", "n", "b"), ("c", "n", "f"), ("e",), ("g",)))
        self.same(changes(SOME, 8, ("move", ("a",), ("c", "n"))), {("name", 0, "a"): None, ("name", 48, "n"): 16})
        self.same(moved.numbers_of(64), tuple(range(1, 11)))

    def test_together(self):
        deed = ("all", (("folder", ("x",)), ("make", ("x", "y")), ("write", ("x", "y"), 0, (3,)), ("drop", ("e",)),
                        ("move", ("a", "b"), ("x", "b")), ("make", ("e",))))
        tree = done(SOME, 9, deed)
        self.same([tree.node_at(("x",)), tree.node_at(("x", "y")), tree.node_at(("e",)), tree.node_at(("x", "b"))],
                  [144, 145, 149, 32])
        self.same([tree.numbers_of(145), tree.kind_of(112)], [(3,), None])
        self.same(refusal(SOME, 9, ("all", deed[1][:5] + (("make", ("x",)),))), ("all", 5, ("there", ("x",))))
        self.same(refusal(SOME, 9, ("all", (("make", ("a",)), ("make", ("c",))))), ("all", 0, ("there", ("a",))))
        self.same(refusal(SOME, 9, ("all", (("make", ("n",)), ("drop", ("n",)), ("cut", ("n",), 0)))),
                  ("all", 2, ("gone", ("n",))))
        self.same(changes(SOME, 9, ("all", (("make", ("n",)), ("drop", ("n",))))), {})
        self.same(growth(SOME, 9, ("all", (("make", ("n",)), ("drop", ("n",))))), 0)
        twice = ("all", (("make", ("n",)), ("make", ("m",)), ("drop", ("n",)), ("make", ("n",))))
        self.same([done(SOME, 9, twice).node_at((name,)) for name in "nm"], [147, 145])

    def test_order_does_nothing(self):
        self.same([done(SOME, 8, ("order",)) == SOME, changes(SOME, 8, ("order",)), growth(SOME, 8, ("order",))], [True, {}, 0])


class Drawn(Case):
    def test_against_the_model(self):
        rng = Random(81)
        refused = {}
        for round_ in range(40):
            model, tree = Model(), Tree()
            for at in range(1, 60):
                before = (tree.facts, tree.weight, tree.shots)
                deed = some_deed(rng, model, "abcd"[:2 + round_ % 3], 1)
                reason = model.reason(deed, at)
                if reason is None and deed[0] == "snap" and len(model.shots) == 6:
                    reason = ("room",)
                self.same(refusal(tree, at, deed), reason)
                if reason is not None:
                    refused[deed[0], reason[0]] = True
                    self.refuses(Refused, reason, lambda: done(tree, at, deed))
                    continue
                facts = tree.facts
                behind = done(tree, at, deed)
                model.do(deed, at)
                self.compare(behind, model)
                told = {key: behind.facts.get(key) for key in sorted({**facts, **behind.facts})
                        if behind.facts.get(key) != facts.get(key)}
                self.same(changes(tree, at, deed), told)
                grown = len(behind.facts) if deed[0] == "snap" else len([key for key in behind.facts if key not in facts])
                self.same([growth(tree, at, deed), behind.weight], [grown, tree.weight + grown])
                self.assertLessEqual(behind.rows, behind.weight)
                self.same((tree.facts, tree.weight, tree.shots), before)
                tree = behind
        self.assertGreater(len(refused), 25)

    def compare(self, tree, model):
        facts = model.facts()
        self.same(tree.facts, facts)
        self.same(facts_fault(tree.facts), None)
        self.same(tree.paths(), tuple(sorted(path for path in model.paths if path)))
        self.same(len(tree), len(set(model.paths.values())))
        self.same(tree.shots, tuple(sorted(model.shots)))
        rows = len(facts)
        for name, (paths, files) in model.shots.items():
            shot = Model()
            shot.paths, shot.files = paths, files
            self.same([tree.shot(name).facts, tree.shot(name).shots], [shot.facts(), ()])
            self.same([tree.shot(name).weight, tree.shot(name).rows], [len(shot.facts())] * 2)
            rows += len(shot.facts())
        self.same(tree.rows, rows)
        self.assertEqual(Tree.of_facts(facts) == tree, not model.shots)
        for path, node in model.paths.items():
            self.same(tree.node_at(path), node)
            kind = "file" if node in model.files else "folder"
            self.same(tree.kind_of(node), kind)
            if kind == "file":
                self.same(tree.numbers_of(node), model.files[node])
            else:
                names = tuple(sorted(one[-1] for one in model.paths if one and one[:-1] == path))
                self.same(tree.names_in(node), names)

    def test_equal_calls_are_equal(self):
        rng = Random(82)
        for number_, deed, tree in done_deeds(rng, 30)[0]:
            self.assertTrue(done(tree, number_, deed) == done(tree, number_, deed))


class Shots(Case):
    def test_a_shot_stays(self):
        tree = done(SOME, 8, ("snap", "s"))
        facts = SOME.facts
        self.same([tree.shots, tree.facts, changes(SOME, 8, ("snap", "s"))], [("s",), facts, {}])
        tree = done(done(done(tree, 9, ("drop", ("g",))), 10, ("drop", ("a", "f"))), 11, ("snap", "r"))
        self.same([tree.shots, tree.shot("s") == SOME, tree.shot("s").facts, tree.shot("r").facts], [("r", "s"), True, facts,
                                                                                                  tree.facts])
        back = done(tree, 12, ("back", "s"))
        self.same([back.facts, back.shots, back.shot("r").paths()], [facts, ("r", "s"), tree.paths()])
        self.same(changes(tree, 12, ("back", "s")),
                  {key: facts[key] for key in sorted(facts) if key not in tree.facts})
        off = done(back, 13, ("unsnap", "s"))
        self.same([off.shots, off.facts, changes(back, 13, ("unsnap", "s")), growth(back, 13, ("unsnap", "s"))],
                  [("r",), facts, {}, 0])
        self.same(done(off, 14, ("snap", "s")).shots, ("r", "s"))

    def test_six_and_seven(self):
        tree = Tree()
        for at in range(6):
            self.same(refusal(tree, at + 1, ("snap", "abcdef"[at])), None)
            tree = done(tree, at + 1, ("snap", "abcdef"[at]))
        self.same(tree.shots, tuple("abcdef"))
        for room in (None, 0, MILLIARD):
            self.same(refusal(tree, 7, ("snap", "g"), room=room), ("room",))
            self.refuses(Refused, ("room",), lambda: done(tree, 7, ("snap", "g"), room=room))
        self.same(growth(tree, 7, ("snap", "g")), 0)
        self.refuses(Refused, ("room",), lambda: changes(tree, 7, ("snap", "g")))
        five = done(tree, 7, ("unsnap", "c"))
        self.same(done(five, 8, ("snap", "g")).shots, tuple("abdefg"))

    def test_shots_and_the_tree_that_is_equal(self):
        one = done(SOME, 8, ("snap", "s"))
        for other in (SOME, done(SOME, 8, ("snap", "t")), done(done(SOME, 8, ("drop", ("e",))), 9, ("snap", "s"))):
            self.assertFalse(one == other)
            self.assertTrue(one != other)
        other = done(done(SOME, 8, ("make", ("n",))), 9, ("snap", "s"))
        other = done(other, 10, ("drop", ("n",)))
        self.assertFalse(one == other)
        self.assertTrue(one == done(SOME, 12, ("snap", "s")))

    def test_not_there(self):
        tree = done(SOME, 8, ("snap", "s"))
        for wrong in anything() + ["t", "S", ("s",), ["s"], {"s": 1}]:
            self.refuses(UnknownName, wrong, lambda: tree.shot(wrong))


class Room(Case):
    def test_growth_and_weight(self):
        self.same([growth(SOME, 8, deed) for deed in (
            ("make", ("n",)), ("folder", ("n",)), ("write", ("e",), 0, (0,)), ("write", ("e",), 0, (1,) * 9),
            ("write", ("g",), 0, (5,)), ("cut", ("g",), 0), ("link", ("e",), ("n",)), ("drop", ("e",)), ("move", ("e",), ("n",)),
            ("move", ("e",), ("e",)), ("move", ("e",), ("g",)), ("snap", "s"))], [3, 2, 0, 2, 0, 0, 1, 0, 1, 0, 0, 15])
        tree = done(SOME, 8, ("cut", ("g",), 0))
        self.same([SOME.weight, SOME.rows, tree.weight, tree.rows], [15, 15, 15, 13])
        self.same([tree.weighed().weight, tree.weighed() == tree, tree.weighed().shots], [13, True, ()])
        tree = done(tree, 9, ("snap", "s"))
        self.same([tree.rows, tree.weight], [26, 28])
        tree = done(tree, 10, ("unsnap", "s"))
        self.same([tree.rows, tree.weight, tree.weighed().weight], [13, 28, 13])
        tree = done(done(tree, 11, ("snap", "s")), 12, ("drop", ("e",)))
        self.same([tree.rows, tree.weight], [13 + 10, 28 + 13])
        self.same(growth(tree, 13, ("back", "s")), 3)
        tree = done(tree, 13, ("back", "s"))
        self.same([tree.rows, tree.weight, tree.weighed().weight, tree.weighed().shots], [26, 44, 26, ("s",)])

    def test_the_bound(self):
        for deed, grown in ((("make", ("n",)), 3), (("folder", ("n",)), 2), (("link", ("e",), ("n",)), 1), (("snap", "s"), 15),
                            (("write", ("e",), 7, (1, 2)), 2), (("all", (("make", ("n",)), ("drop", ("e",)))), 3)):
            for room in (15 + grown, 15 + grown + 1, MILLIARD):
                self.same(refusal(SOME, 8, deed, room=room), None)
                self.same(done(SOME, 8, deed, room=room).weight, 15 + grown)
            for room in (15 + grown - 1, 14, 0):
                self.same(refusal(SOME, 8, deed, room=room), ("room",))
                self.refuses(Refused, ("room",), lambda: done(SOME, 8, deed, room=room))
        for deed in (("drop", ("e",)), ("cut", ("g",), 1), ("order",), ("move", ("e",), ("g",)), ("write", ("e",), 0, (0,))):
            self.same(refusal(SOME, 8, deed, room=0), None)
        self.same(refusal(Tree(), 1, ("snap", "s"), room=0), None)
        tree = done(SOME, 8, ("snap", "s"))
        self.same(refusal(tree, 9, ("unsnap", "s"), room=0), None)
        self.same(refusal(tree, 9, ("back", "s"), room=0), None)
        less = done(tree, 9, ("drop", ("e",)))
        self.same([refusal(less, 10, ("back", "s"), room=room) for room in (32, 33)], [("room",), None])
        # A tree that is weighed anew has more room.
        self.same([refusal(less, 10, ("back", "s"), room=room) for room in (32, 33)], [("room",), None])
        self.same([refusal(less.weighed(), 10, ("back", "s"), room=room) for room in (29, 30)], [("room",), None])
        # Behind all other reasons.
        self.same(refusal(SOME, 8, ("make", ("a",)), room=0), ("there", ("a",)))
        self.same(refusal(SOME, 8, ("write", ("e",), 90, (1,) * 7), room=0), ("long",))


def slow_fault(value):
    """The fault straight as [8.2] and the text of facts_fault say, for a dict of the right forms."""
    names = {key: node for key, node in value.items() if key[0] == "name"}
    kind = {key[1]: what for key, what in value.items() if key[0] == "kind"}
    found = [key for key, node in names.items() if (key[1] != 0 and kind.get(key[1]) != "folder") or node not in kind
             or (kind[node] == "folder" and any(other < key and names[other] == node for other in names))]
    if found:
        return min(found)
    found = [("kind", node) for node in kind if node not in names.values()]
    found = found or [key for key in value if key[0] == "size" and kind.get(key[1]) != "file"]
    if found:
        return min(found)
    for key, piece in value.items():
        if key[0] == "piece":
            size = value.get(("size", key[1]), 96)
            late = [one for at, one in enumerate(piece) if 8 * key[2] + at >= size and one != 0]
            if kind.get(key[1]) != "file" or set(piece) == {0} or late:
                found.append(key)
    found = found or [("nosize", node) for node in kind if kind[node] == "file" and ("size", node) not in value]
    if found:
        return min(found)
    reached = {0}
    for _ in kind:
        reached |= {node for key, node in names.items() if key[1] in reached}
    found = [("ring", node) for node in kind if kind[node] == "folder" and node not in reached]
    return min(found) if found else None


PIECE = (1, 0, 0, 0, 0, 0, 0, 0)


class Faults(Case):
    def fault(self, value, fault):
        self.same(facts_fault(value), fault)
        if fault is None:
            self.same(Tree.of_facts(value).facts, {key: value[key] for key in sorted(value)})
        else:
            self.refuses(InvalidTree, None, lambda: Tree.of_facts(value))

    def test_forms(self):
        good = {("kind", 16): "file", ("name", 0, "a"): 16, ("size", 16): 1, ("piece", 16, 0): PIECE}
        self.fault(good, None)
        self.fault({}, None)
        for key, value in ((("kind", 32), "File"), (("kind", 32), None), (("kind", 0), "folder"), (("kind", True), "file"),
                           (("kind", "a"), "file"), (("kind",), "file"), (("kind", 32, 0), "file"), (("kind", -1), "file"),
                           (("kind", 16 * 10 ** 12 + 16), "file"), (("name", 0, "A"), 16), (("name", 0), 16),
                           (("name", -1, "a"), 16), (("name", False, "b"), 16), (("name", 0, "b"), 0), (("name", 0, "b"), True),
                           (("name", 0, "b"), "a"), (("name", 0, "abcdefghi"), 16), (("name", 0, 1), 16),
                           (("name", 0, "b"), 16 * 10 ** 12 + 16), (("name", 16 * 10 ** 12 + 16, "b"), 16),
                           (("size", 16), 97), (("size", 16), -1), (("size", 16), True), (("size", 0), 0), (("size", 16), None),
                           (("piece", 16, 1), PIECE + (0,)), (("piece", 16, 1), PIECE[:7]), (("piece", 16, 1), list(PIECE)),
                           (("piece", 16, 12), PIECE), (("piece", 16, -1), PIECE), (("piece", 16, True), PIECE),
                           (("piece", 0, 0), PIECE), (("piece", 16), PIECE), (("piece", 16, 0, 0), PIECE),
                           (("piece", 16, 1), (MILLIARD,) + PIECE[1:]), (("piece", 16, 1), (-1,) + PIECE[1:]),
                           (("piece", 16, 1), (True,) + PIECE[1:]), (("names", 0), 16), ("kind", "file"), ((), 1), (None, 1),
                           (1, 1), (("Kind", 16), "file"), ((1, 16), (0,))):
            self.fault({**good, key: value}, ("form",))
        for value in anything():
            self.fault(value, None if value == {} and type(value) is dict else ("form",))

    def test_bounds(self):
        last = 16 * 10 ** 12 + 15
        self.fault({("kind", last): "file", ("name", 0, "zzzzzzzz"): last, ("size", last): 96,
                    ("piece", last, 11): (MILLIARD - 1,) * 8}, None)
        self.fault({("kind", 1): "folder", ("name", 0, "a"): 1, ("kind", last): "folder", ("name", 1, "a"): last}, None)

    def test_each_fault(self):
        folder = {("kind", 16): "folder", ("name", 0, "a"): 16}
        file = {("kind", 32): "file", ("name", 0, "f"): 32, ("size", 32): 9}
        self.fault({**folder, **file}, None)
        for more, fault in (({("name", 48, "a"): 32}, ("name", 48, "a")), ({("name", 32, "a"): 32}, ("name", 32, "a")),
                            ({("name", 0, "b"): 48}, ("name", 0, "b")), ({("name", 0, "b"): 16}, ("name", 0, "b")),
                            ({("name", 16, "a"): 16}, ("name", 16, "a")), ({("name", 16, "a"): 32}, None),
                            ({("kind", 48): "folder"}, ("kind", 48)), ({("kind", 48): "file"}, ("kind", 48)),
                            ({("size", 16): 0}, ("size", 16)), ({("size", 48): 0}, ("size", 48)),
                            ({("piece", 16, 0): PIECE}, ("piece", 16, 0)), ({("piece", 48, 0): PIECE}, ("piece", 48, 0)),
                            ({("piece", 32, 0): (0,) * 8}, ("piece", 32, 0)), ({("piece", 32, 2): PIECE}, ("piece", 32, 2)),
                            ({("piece", 32, 1): PIECE}, None), ({("piece", 32, 1): (1, 1) + (0,) * 6}, ("piece", 32, 1)),
                            ({("piece", 32, 1): (0, 1) + (0,) * 6}, ("piece", 32, 1)),
                            ({("kind", 48): "file", ("name", 0, "g"): 48}, ("nosize", 48)),
                            ({("kind", 48): "file", ("name", 0, "g"): 48, ("piece", 48, 11): (1,) * 8}, ("nosize", 48)),
                            ({("kind", 48): "file", ("name", 0, "g"): 48, ("piece", 48, 11): (0,) * 8}, ("piece", 48, 11)),
                            ({("kind", 48): "folder", ("name", 48, "g"): 48}, ("ring", 48)),
                            ({("kind", 48): "folder", ("name", 64, "g"): 48, ("kind", 64): "folder", ("name", 48, "g"): 64,
                              ("kind", 20): "folder", ("name", 64, "h"): 20}, ("ring", 20))):
            self.fault({**folder, **file, **more}, fault)
            self.fault({**more, **folder, **file}, fault)
        self.fault({("kind", 9): "folder", ("name", 9, "g"): 9, **file}, ("ring", 9))

    def test_two_at_once(self):
        base = {("kind", 16): "file", ("name", 0, "a"): 16, ("size", 16): 1}
        row = [({("kind", 5): "What"}, ("form",)), ({("name", 0, "b"): 99}, ("name", 0, "b")), ({("kind", 7): "folder"}, ("kind", 7)),
               ({("size", 8): 1}, ("size", 8)), ({("piece", 8, 3): PIECE}, ("piece", 8, 3)),
               ({("kind", 10): "file", ("name", 0, "c"): 10}, ("nosize", 10)),
               ({("kind", 9): "folder", ("name", 9, "c"): 9}, ("ring", 9))]
        for at, (one, fault) in enumerate(row):
            self.fault({**base, **one}, fault)
            for other, _ in row[at:]:
                self.fault({**base, **other, **one}, fault)
                self.fault({**other, **one, **base}, fault)
        self.fault({**base, ("kind", 9): "file", ("kind", 7): "file", ("kind", 8): "folder"}, ("kind", 7))
        self.fault({**base, ("name", 3, "a"): 16, ("name", 0, "c"): 17, ("name", 0, "d"): 17}, ("name", 0, "c"))
        self.fault({**base, ("piece", 16, 3): PIECE, ("piece", 16, 1): PIECE, ("piece", 17, 0): PIECE}, ("piece", 16, 1))

    def test_deep_folders(self):
        facts = {}
        for depth in range(1000):
            facts[("kind", depth + 1)] = "folder"
            facts[("name", depth, "a")] = depth + 1
        self.fault(facts, None)
        self.same(len(Tree.of_facts(facts).paths()), 1000)
        ring = {key: value for key, value in facts.items() if key != ("name", 0, "a")}
        self.fault(ring, ("kind", 1))
        self.fault({**ring, ("name", 1000, "a"): 1}, ("ring", 1))
        self.fault({**ring, ("name", 500, "b"): 1}, ("ring", 1))

    def test_drawn(self):
        rng = Random(83)
        kinds = {}
        for at in range(2500):
            nodes = [rng.randrange(1, 7) for _ in range(4)]
            facts = {}
            for _ in range(rng.randrange(1, 5)):
                facts[("kind", rng.choice(nodes))] = rng.choice(("folder", "folder", "file"))
            for node in nodes:
                if rng.randrange(8):
                    facts[("name", rng.choice([0] + nodes), rng.choice("abc"))] = node
                if facts.get(("kind", node)) == "file" and rng.randrange(4) or rng.randrange(20) == 0:
                    facts[("size", node)] = rng.choice((0, 1, 8, 9, 96))
                    if rng.randrange(2):
                        facts[("piece", node, rng.choice((0, 1)))] = rng.choice((PIECE, (0,) * 7 + (1,), (0,) * 8))
            if rng.randrange(3) == 0:
                facts = {key: facts[key] for key in rng.sample(sorted(facts), len(facts))}
            fault = slow_fault(facts)
            kinds[fault and fault[0]] = True
            self.fault(facts, fault)
        self.assertEqual(len(kinds), 7)

    def test_trees_with_a_fact_less_or_more(self):
        rng = Random(84)
        facts = full_tree(rng).facts
        for key in facts:
            less = {one: value for one, value in facts.items() if one != key}
            self.fault(less, slow_fault(less))


class Reads(Case):
    def test_a_new_tree(self):
        tree = Tree()
        self.same([tree.facts, tree.shots, tree.rows, tree.weight, tree.paths(), tree.node_at(()), tree.kind_of(0), tree.names_in(0)],
                  [{}, (), 0, 0, (), 0, "folder", ()])
        self.same([len(tree), str(tree), tree == Tree(), tree == SOME, str(SOME), len(SOME), bool(tree)],
                  [1, "tree of 1 nodes, 0 shots", True, False, "tree of 6 nodes, 0 shots", 6, True])
        self.same(str(done(SOME, 8, ("snap", "s"))), "tree of 6 nodes, 1 shots")
        for value in anything():
            self.assertFalse(tree == value)
            self.assertTrue(tree != value)
        self.assertIsInstance(raised(lambda: iter(tree)), TypeError)
        self.assertIsInstance(raised(lambda: Tree({})), TypeError)

    def test_equal_whatever_the_weights(self):
        tree = done(done(SOME, 8, ("make", ("n",))), 9, ("drop", ("n",)))
        self.same([tree == SOME, tree.weight, SOME.weight], [True, 18, 15])

    def test_nodes(self):
        for value in anything() + [16, 17, 32, 48, 64, 112, (16,), "16"]:
            is_node = type(value) is int and value in (0, 16, 32, 48, 64, 112)
            kind = (("folder" if value in (0, 16, 32, 48) else "file") if is_node else None)
            self.same(SOME.kind_of(value), kind)
            if kind != "folder":
                self.refuses(InvalidNumber, value, lambda: SOME.names_in(value))
            if kind != "file":
                self.refuses(InvalidNumber, value, lambda: SOME.numbers_of(value))
        one = Tree.of_facts({("kind", 1): "file", ("name", 0, "a"): 1, ("size", 1): 0})
        self.same([one.kind_of(1), one.kind_of(True), one.kind_of(False), one.numbers_of(1)], ["file", None, None, ()])
        self.refuses(InvalidNumber, True, lambda: one.numbers_of(True))
        self.refuses(InvalidNumber, False, lambda: one.names_in(False))

    def test_paths(self):
        self.same([SOME.node_at(path) for path in ((), ("a",), ("a", "f"), ("g",), ("g", "f"), ("x",), ("a", "x", "f"), ("a",) * 8)],
                  [0, 16, 64, 64, None, None, None, None])
        for value in anything() + [("a",) * 9, ("A",), ["a"], "a"]:
            if not is_path(value):
                self.refuses(InvalidName, None, lambda: SOME.node_at(value))

    def test_nothing_is_shared(self):
        given = {("kind", 16): "folder", ("name", 0, "a"): 16}
        tree = Tree.of_facts(given)
        given[("name", 0, "b")] = 16
        tree.facts[("kind", 16)] = "file"
        tree.facts.clear()
        self.same(tree.facts, {("kind", 16): "folder", ("name", 0, "a"): 16})
        told = changes(tree, 2, ("make", ("c",)))
        told.clear()
        self.same(len(changes(tree, 2, ("make", ("c",)))), 3)
        shot = done(tree, 2, ("snap", "s"))
        shot.shot("s").facts.clear()
        done(shot, 3, ("drop", ("a",))).facts.clear()
        self.same([shot.shot("s").facts == tree.facts, shot.facts == tree.facts], [True, True])


class Wrong(WrongCase):
    def test_wrong_arguments(self):
        args = [tree_arg(SOME), number(8, 1, 10 ** 12), deed_arg(("make", ("n",)))]
        for function in (done, refusal, growth, changes):
            self.wrong_calls(function, args, lambda: (SOME.facts, SOME.weight))

    def test_room(self):
        room = Arg(9, lambda value: value is None or (type(value) is int and 0 <= value <= MILLIARD), InvalidNumber,
                   [-1, MILLIARD + 1, "9", (9,)])
        args = [tree_arg(SOME), number(8, 1, 10 ** 12), deed_arg(("order",)), room]
        for function in (done, refusal):
            self.wrong_calls(lambda tree, at, deed, given: function(tree, at, deed, room=given), args)
            # The room is asked ahead of refusals.
            self.refuses(InvalidNumber, -1, lambda: function(SOME, 8, ("make", ("a",)), room=-1))
            self.assertIsInstance(raised(lambda: function(SOME, 8, ("order",), 9)), TypeError)
        self.same([refusal(SOME, 1, ("order",), room=0), refusal(SOME, 10 ** 12, ("order",), room=MILLIARD)], [None, None])

    def test_of_facts(self):
        self.wrong_calls(Tree.of_facts, [Arg({}, lambda value: value == {} and type(value) is dict, InvalidTree, [((),)])])
