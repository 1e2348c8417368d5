from random import Random

from helpers import Arg, Case, WrongCase, anything, pair_state
from everycut.errors import InvalidDisk, InvalidOperation, Refused, UnknownName
from everycut.keep import shots as shots_module
from everycut.keep import volumes
from everycut.keep.heads import found_head, write_head
from everycut.keep.shots import (
    own_places, reached_places, shot_changes, shot_names, shot_rows, shot_tree, unlike_leaves)
from everycut.keep.volumes import made, mount
from everycut.outside import pairs
from everycut.outside.pairs import fresh_pair
from everycut.plain import coding
from everycut.plain.coding import rows_fault, rows_of_tree
from everycut.plain.trees import Tree, done
from everycut.rows.cells import changes_between, rows_changed
from everycut.rows.room import free_places
from everycut.rows.trees import tree_changed
from pair_helpers import lose_some, pair_arg
from plain_helpers import Model, some_deed
from volume_helpers import drawn_behind, drawn_deed, is_refused
from tree_helpers import node_cells, random_tree, slow_scan, told_node

EXAMPLES = '''
>>> V = made(fresh_pair(40), 6)
>>> V.do(("make", ("a",)))
>>> V.do(("snap", "s"))
>>> [shot_names(V.pair), reached_places(V.pair, None)]
[(), ()]
>>> V.turn()
>>> [shot_names(V.pair), shot_rows(V.pair, "s") == rows_of_tree(V.tree), unlike_leaves(V.pair, "s", "s"), shot_changes(V.pair, "s", None)]
[('s',), True, ((), ()), {}]
>>> V.do(("drop", ("a",)))
>>> V.turn()
>>> [own_places(V.pair, ("s",)) == reached_places(V.pair, "s"), len(reached_places(V.pair, "s")), shot_tree(V.pair, "s").paths(), shot_changes(V.pair, "s", None)]
[True, 1, (('a',),), {(1, 16): None, (2, 0, 10460353203): None, (3, 16): None}]
>>> shot_rows(V.pair, "t")
raises UnknownName('t')
'''

SIX = ("a", "b", "c", "d", "e", "zzzzzzzz")


def written(size, log, root, shots, blocks, turn=2):
    """A flushed pair with a head and some blocks."""
    pair = fresh_pair(size)
    for place, cells in blocks.items():
        pair.write_block(place, cells)
    write_head(pair, (turn, log, 9, root, shots))
    pair.flush()
    return pair


def grown(rng, size=120, log=6, many=5):
    """A pair with a tree and some shots of it that share nodes; and the dict from their names to the trees."""
    blocks, roots, trees = {}, {}, {}
    model, tree, root = Model(), Tree(), 0
    names = rng.sample(SIX, rng.randrange(many + 1))
    at = 0
    for name in names + [None]:
        for _ in range(rng.choice((0, 1, 4, 25))):
            at += 1
            deed = some_deed(rng, model, bars=0)
            if model.reason(deed, at) is None and tree.rows < 120:
                tree = done(tree, at, deed)
                model.do(deed, at)
        before = slow_scan(blocks, root)[0]
        free = free_places(size, log, blocks, tuple(roots.values()) + (root,))
        root, fresh = tree_changed(blocks, root, changes_between(before, rows_of_tree(tree)), free)
        blocks.update(fresh)
        roots[name], trees[name] = root, tree
    shots = tuple((name, roots[name]) for name in sorted(names))
    return written(size, log, roots[None], shots, blocks), trees, roots, blocks


def leaves(blocks, root):
    return {place for place in slow_scan(blocks, root)[1] if told_node(blocks[place])[0] == 0}


class Shots(Case):
    def test_examples(self):
        self.examples(EXAMPLES, {**vars(shots_module), **vars(volumes), **vars(pairs), **vars(coding)})

    def test_shots_of_volumes(self):
        # A shot tells the tree of which it was made as long as it is there, at the places at which it was written.
        rng = Random(134)
        for seed in range(12):
            volume = made(fresh_pair(90), 8)
            kept = {}
            for _ in range(60):
                kind = rng.randrange(12)
                if kind == 0:
                    volume.turn()
                elif kind == 1:
                    before = {name: shot_rows(volume.pair, name) for name in shot_names(volume.pair)}
                    places = {name: reached_places(volume.pair, name) for name in before}
                    volume = mount(drawn_behind(rng, volume.pair))
                    # What is not synced can lack: shots that are gone come again, others are not there yet.
                    kept = {name: [volume.tree.shot(name).facts, reached_places(volume.pair, name)] for name in volume.tree.shots}
                    for name in kept:
                        if before.get(name) == shot_rows(volume.pair, name):
                            self.same(kept[name][1], places[name])
                else:
                    deed = drawn_deed(rng, volume.tree, bars=4)
                    ahead = volume.tree
                    if is_refused(lambda: volume.do(deed)) is None and deed[0] in ("snap", "unsnap"):
                        kept = {name: kept[name] for name in kept if name != deed[1]}
                        if deed[0] == "snap":
                            kept[deed[1]] = [ahead.facts, None]
                for name in shot_names(volume.pair):
                    if name in kept and shot_tree(volume.pair, name).facts == kept[name][0]:
                        kept[name][1] = kept[name][1] or reached_places(volume.pair, name)
                        self.same(reached_places(volume.pair, name), kept[name][1])
                for name in kept:
                    self.same(volume.tree.shot(name).facts, kept[name][0])
                    self.same(kept[name][1] is None or name in shot_names(volume.pair), True)

    def test_against_the_nodes(self):
        rng = Random(130)
        shared, own = 0, 0
        for _ in range(45):
            pair, trees, roots, blocks = grown(rng)
            state = pair_state(pair)
            reached = {name: set(slow_scan(blocks, root)[1]) for name, root in roots.items()}
            names = sorted(name for name in trees if name)
            self.same(shot_names(pair), tuple(names))
            for name, tree in trees.items():
                self.same(shot_rows(pair, name), rows_of_tree(tree))
                got = shot_tree(pair, name)
                self.same([got.facts, got.shots, got.weight], [tree.facts, (), len(tree.facts)])
                self.same(reached_places(pair, name), tuple(sorted(reached[name])))
                for other in trees:
                    one, last = leaves(blocks, roots[name]), leaves(blocks, roots[other])
                    self.same(unlike_leaves(pair, name, other), (tuple(sorted(one - last)), tuple(sorted(last - one))))
                    self.leaves_tell_changes(pair, blocks, name, other)
                    shared += 0 < len(one & last) < len(one)
            for _ in range(6):
                some = tuple(one for one in names if rng.randrange(2))
                kept = set().union(*[reached[name] for name in reached if name not in some])
                mine = set().union(*[reached[name] for name in some])
                self.same(own_places(pair, some), tuple(sorted(mine - kept)))
                own += bool(mine - kept)
            self.same(own_places(pair, ()), ())
            everything = set().union(*reached.values())
            self.same(own_places(pair, tuple(names)), tuple(sorted(everything - reached[None])))
            self.assertEqual(pair_state(pair), state)
        self.assertGreater(shared, 10)
        self.assertGreater(own, 40)

    def leaves_tell_changes(self, pair, blocks, name, other):
        changes = shot_changes(pair, name, other)
        one, last = shot_rows(pair, name), shot_rows(pair, other)
        self.same(changes, changes_between(one, last))
        self.same(rows_changed(one, changes), last)
        first, second = unlike_leaves(pair, name, other)
        gone = dict(row for place in first for row in told_node(blocks[place])[1])
        come = dict(row for place in second for row in told_node(blocks[place])[1])
        told = {key: come.get(key) for key in sorted({**gone, **come}) if gone.get(key) != come.get(key)}
        self.same(changes, told)

    def test_own_alone_and_together(self):
        # The leaf 10 is shared by both shots, 11 and 12 are reached by one of them, 13 by the tree and the first one.
        blocks = {at: node_cells(0, [((1, at), (1,)), ((2, at), (1,))]) for at in (10, 11, 12, 13)}
        blocks[20] = node_cells(1, [((1, 10), 10), ((1, 11), 11)])
        blocks[10] = node_cells(0, [((1, 10), (1,)), ((1, 10, 5), (1,))])
        blocks[20] = node_cells(1, [((1, 10), 10), ((1, 11), 11), ((3, 1), 13)])
        blocks[11] = node_cells(0, [((1, 11), (1,)), ((2, 11), (1,))])
        blocks[13] = node_cells(0, [((3, 1), (1,)), ((4, 1), (1,))])
        blocks[21] = node_cells(1, [((1, 10), 10), ((1, 12), 12)])
        blocks[12] = node_cells(0, [((1, 12), (1,)), ((2, 12), (1,))])
        pair = written(24, 4, 13, (("a", 20), ("b", 21), ("c", 0)), blocks)
        self.same([own_places(pair, names) for names in ((), ("a",), ("b",), ("a", "b"), ("c",), ("a", "b", "c"), ("a", "c"))],
                  [(), (11, 20), (12, 21), (10, 11, 12, 20, 21), (), (10, 11, 12, 20, 21), (11, 20)])
        self.same([unlike_leaves(pair, "a", "b"), unlike_leaves(pair, "a", None), unlike_leaves(pair, None, "a"),
                   unlike_leaves(pair, "c", "b"), unlike_leaves(pair, "c", "c")],
                  [((11, 13), (12,)), ((10, 11), ()), ((), (10, 11)), ((), (10, 12)), ((), ())])
        self.same([reached_places(pair, name) for name in (None, "a", "b", "c")], [(13,), (10, 11, 13, 20), (10, 12, 21), ()])
        self.same([shot_rows(pair, "c"), shot_tree(pair, "c") == Tree(), shot_changes(pair, "c", None)],
                  [(), True, {(3, 1): (1,), (4, 1): (1,)}])

    def test_no_root_and_equal_roots(self):
        pair = written(24, 4, 0, (), {})
        self.same([shot_names(pair), shot_rows(pair, None), reached_places(pair, None), own_places(pair, ()), unlike_leaves(pair, None, None),
                   shot_changes(pair, None, None), shot_tree(pair, None) == Tree()], [(), (), (), (), ((), ()), {}, True])
        tree = done(Tree(), 1, ("folder", ("a",)))
        blocks = {8: node_cells(0, rows_of_tree(tree))}
        pair = written(24, 6, 8, tuple((name, 8) for name in SIX), blocks)
        self.same([shot_names(pair), own_places(pair, SIX), own_places(pair, ("a", "c"))], [SIX, (), ()])
        self.same([shot_tree(pair, "d") == tree, unlike_leaves(pair, "a", "e"), shot_changes(pair, "a", None)], [True, ((), ()), {}])
        pair = written(24, 6, 0, tuple((name, 8) for name in SIX), blocks)
        self.same([own_places(pair, SIX), own_places(pair, SIX[1:]), own_places(pair, ("a",))], [(8,), (), ()])

    def test_a_shot_of_what_is_dropped(self):
        # What the examples of the stage come to, written by hand.
        tree = done(Tree(), 1, ("make", ("a",)))
        blocks = {8: node_cells(0, rows_of_tree(tree))}
        pair = written(40, 6, 8, (("s", 8),), blocks)
        self.same([shot_names(pair), shot_rows(pair, "s") == rows_of_tree(tree), unlike_leaves(pair, "s", "s"), shot_changes(pair, "s", None)],
                  [("s",), True, ((), ()), {}])
        pair = written(40, 6, 0, (("s", 8),), blocks)
        self.same([own_places(pair, ("s",)), reached_places(pair, "s"), shot_tree(pair, "s").paths(), shot_changes(pair, "s", None)],
                  [(8,), (8,), (("a",),), {(1, 16): None, (2, 0, 10460353203): None, (3, 16): None}])
        self.refuses(UnknownName, "t", lambda: shot_rows(pair, "t"))

    def test_what_is_read_through_losses(self):
        rng = Random(131)
        for _ in range(10):
            pair, trees, _, _ = grown(rng)
            lose_some(rng, pair, 200, range(2, pair.size))
            for name, tree in trees.items():
                self.same(shot_tree(pair, name).facts, tree.facts)
            for place in reached_places(pair, None):
                pair.mend(place)
            self.same(shot_tree(pair, None).facts, trees[None].facts)

    def test_just_the_shelf_is_looked_at(self):
        leaf = node_cells(0, [((1,), (1,)), ((2,), (1,))])
        for place, fault in ((0, ("lost", 0)), (1, ("lost", 1)), (5, ("lost", 5)), (6, None), (23, None), (24, ("lost", 24))):
            top = node_cells(1, [((1,), place), ((5,), 10)])
            blocks = {9: top, 10: node_cells(0, [((5,), (1,)), ((6,), (1,))])}
            if 2 <= place < 24:
                blocks[place] = leaf
            pair = written(24, 4, 9, (), blocks)
            if fault is None:
                self.same(len(shot_rows(pair, None)), 4)
            else:
                self.refuses(Refused, ("rows", fault), lambda: shot_rows(pair, None))

    def test_blocks_that_are_not_whole(self):
        leaf = node_cells(0, [((1,), (1,)), ((2,), (1,))])
        pair = written(24, 4, 9, (), {9: leaf})
        pair.one.write(9, ((1,), (), (), ()))
        self.same(len(shot_rows(pair, None)), 2)
        pair.other.write(9, ((1,), (), (), ()))
        self.refuses(Refused, ("rows", ("lost", 9)), lambda: shot_rows(pair, None))
        pair.write_block(9, ())
        self.refuses(Refused, ("rows", ("cells", 9)), lambda: shot_rows(pair, None))

    def test_the_greater_head_counts(self):
        leaf = node_cells(0, [((1,), (1,)), ((2,), (1,))])
        pair = written(24, 4, 9, (("a", 9),), {9: leaf})
        write_head(pair, (3, 4, 9, 0, (("b", 9),)))
        self.same([shot_names(pair), shot_rows(pair, None), len(shot_rows(pair, "b"))], [("b",), (), 2])
        self.refuses(UnknownName, "a", lambda: shot_rows(pair, "a"))


class Errors(Case):
    def calls(self, pair, name, other="a"):
        return [lambda: shot_rows(pair, name), lambda: shot_tree(pair, name), lambda: reached_places(pair, name),
                lambda: unlike_leaves(pair, name, other), lambda: shot_changes(pair, name, other)]

    def test_no_head(self):
        for pair in (fresh_pair(24), fresh_pair(240)):
            pair.write_block(1, (2, 4, 1, 0, 0))
            for name in (None, "a", "A", 1):
                for call in self.calls(pair, name):
                    self.refuses(Refused, ("head",), call)
            self.refuses(Refused, ("head",), lambda: shot_names(pair))
            for names in ((), ("a",), ("b", "a"), None, 1):
                self.refuses(Refused, ("head",), lambda: own_places(pair, names))

    def test_names_that_are_not_there(self):
        pair = written(24, 4, 0, (("a", 0), ("b", 9)), {})
        for wrong in anything() + ["c", "A", "ab", ("a",), ["a"], {"a": 1}, True, 0]:
            if wrong is None or wrong == "a" and type(wrong) is str:
                continue
            for call in self.calls(pair, wrong) + self.calls(pair, wrong, "d"):
                self.refuses(UnknownName, wrong, call)
            for function in (unlike_leaves, shot_changes):
                self.refuses(UnknownName, wrong, lambda: function(pair, None, wrong))
                # Ahead of the fault of a root.
                self.refuses(UnknownName, wrong, lambda: function(pair, "b", wrong))

    def test_spoilt_trees(self):
        leaf = node_cells(0, [((1,), (1,)), ((2,), (1,))])
        blocks = {9: leaf, 10: (0, 1), 11: node_cells(1, [((1,), 9), ((5,), 12)])}
        pair = written(24, 4, 9, (("a", 10), ("b", 11), ("c", 9), ("d", 0)), blocks)
        first, second = ("rows", ("cells", 10)), ("rows", ("lost", 12))
        for name, fault in (("a", first), ("b", second)):
            for call in self.calls(pair, name, None):
                self.refuses(Refused, fault, call)
            for function in (unlike_leaves, shot_changes):
                for other in (None, "c", "d"):
                    self.refuses(Refused, fault, lambda: function(pair, other, name))
        for function in (unlike_leaves, shot_changes):
            self.refuses(Refused, first, lambda: function(pair, "a", "b"))
            self.refuses(Refused, second, lambda: function(pair, "b", "a"))
        self.same([len(shot_rows(pair, "c")), shot_rows(pair, "d"), shot_names(pair)], [2, (), ("a", "b", "c", "d")])
        # The first fault of several is told.
        top = node_cells(1, [((1,), 13), ((5,), 10), ((6,), 14)])
        several = written(24, 4, 15, (("a", 10),), {**blocks, 15: top, 14: leaf})
        self.refuses(Refused, ("rows", ("lost", 13)), lambda: shot_rows(several, None))
        # All roots are looked at for what is own, that of the tree first.
        for names in ((), ("c",), ("b",), ("a", "b")):
            self.refuses(Refused, first, lambda: own_places(pair, names))
        self.refuses(UnknownName, "e", lambda: own_places(pair, ("a", "e")))
        spoilt = written(24, 4, 11, (("a", 10),), blocks)
        self.refuses(Refused, second, lambda: own_places(spoilt, ("a",)))

    def test_rows_that_are_no_tree(self):
        tree = done(done(Tree(), 1, ("folder", ("a",))), 2, ("make", ("b",)))
        rows = rows_of_tree(tree)
        for some, fault in ((rows[1:4], ("name", 0, "a")), ((((7,), (1,)),), ("row", (7,))), (rows[:2], ("kind", 16))):
            root, blocks = random_tree(Random(132), some, range(6, 24))
            pair = written(24, 4, root, (("s", root),), blocks)
            self.same(rows_fault(some), fault)
            for name in (None, "s"):
                self.same(shot_rows(pair, name), some)
                self.refuses(Refused, ("rows", fault), lambda: shot_tree(pair, name))
            self.same(shot_changes(pair, None, "s"), {})

    def test_sequence(self):
        pair = written(24, 4, 9, (("a", 9),), {})
        self.refuses(InvalidDisk, None, lambda: shot_rows(None, 1))
        for wrong, error, kept in ((("b", "a"), InvalidOperation, None), (("a", "a"), InvalidOperation, None), (["a"], InvalidOperation, None),
                                   (("A",), InvalidOperation, None), (("a", "A"), InvalidOperation, None), (("c", "b"), InvalidOperation, None),
                                   (("b",), UnknownName, "b"), (("a", "b", "c"), UnknownName, "b"), (("c", "d"), UnknownName, "c"),
                                   (("a",), Refused, ("rows", ("lost", 9))), ((), Refused, ("rows", ("lost", 9)))):
            self.refuses(error, kept, lambda: own_places(pair, wrong))


class Wrong(WrongCase):
    def test_wrong_arguments(self):
        pair = grown(Random(133), many=3)[0]
        names = found_head(pair)[4]
        state = lambda: pair_state(pair)
        name = Arg(None, lambda value: value is None or value in [one for one, _ in names], UnknownName, ["c" * 9, "x", ("a",)])
        self.wrong_calls(shot_names, [pair_arg(pair)], state)
        for function in (shot_rows, shot_tree, reached_places):
            self.wrong_calls(function, [pair_arg(pair), name], state)
        for function in (unlike_leaves, shot_changes):
            self.wrong_calls(function, [pair_arg(pair), name, name], state)
        good = Arg((), lambda value: value == () and type(value) is tuple, InvalidOperation,
                   [("b", "a"), ("a", "a"), ["a"], ("A",), "a", {"a": 1}, ("a", None)])
        good.wrong = lambda: [value for value in good.more + anything() if not good.is_good(value)
                              and not (type(value) is tuple and all(type(one) is str for one in value) and list(value) == sorted(set(value))
                                       and all(one.islower() and one.isalpha() for one in value))]
        self.wrong_calls(own_places, [pair_arg(pair), good], state)

    def test_nothing_is_shared(self):
        pair = written(24, 4, 0, (("a", 9),), {9: node_cells(0, [((1,), (1,)), ((2,), (1,))])})
        shot_changes(pair, None, "a").clear()
        self.same(len(shot_changes(pair, None, "a")), 2)
