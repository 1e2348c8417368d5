from functools import lru_cache
from random import Random

from helpers import LEFT, RIGHT, TOP, Arg, Case, WrongCase, is_int, number
from everycut.errors import InvalidBlock, InvalidRow, Refused
from everycut.rows import trees
from everycut.rows.cells import is_key
from everycut.rows.room import reached_by
from everycut.rows.trees import (
    is_tree_change, most_blocks, most_fresh, most_level, node_told, tree_between, tree_blocks, tree_changed, tree_fault,
    tree_get, tree_rows, tree_scan)
from tree_helpers import NODES, blocks_arg, node_cells, random_tree, slow_counts, slow_scan, some_rows, told_node

EXAMPLES = '''
>>> NODES = {6: LEFT, 7: RIGHT, 9: TOP}
>>> [node_told(TOP), node_told((0, 1, 5)), tree_fault(NODES, 9), tree_blocks(NODES, 9), tree_rows(NODES, 6), tree_rows({}, 0)]
[(1, (((1,), (6,)), ((5,), (7,)))), None, None, (6, 7, 9), (((1,), (10,)), ((2,), (20,))), ()]
>>> [tree_get(NODES, 9, (5, 0)), tree_get(NODES, 9, (3,)), tree_between(NODES, 9, (2,), (5, 0))]
[(51,), None, (((2,), (20,)), ((5,), (50,)))]
>>> [tree_fault({9: TOP, 6: LEFT}, 9), tree_fault({9: TOP, 6: RIGHT, 7: LEFT}, 9), tree_fault({9: TOP, 6: TOP}, 9), tree_fault({9: TOP, 6: LEFT, 7: (0, 1, 1, 5, 1, 50)}, 9)]
[('lost', 7), ('key', 6), ('level', 6), ('few', 7)]
>>> tree_scan({9: TOP, 6: LEFT}, 9)
((((1,), (10,)), ((2,), (20,))), (6, 9), (('lost', 7),))
>>> root, fresh = tree_changed(NODES, 9, {(2,): (21,)}, (10, 11, 12, 13))
>>> [is_tree_change(NODES, 9, {(2,): (21,)}, (10, 11, 12, 13), (root, fresh)), len(fresh) <= 3, tree_get({**NODES, **fresh}, root, (2,)), tree_get({**NODES, **fresh}, 9, (2,))]
[True, True, (21,), (20,)]
>>> [tree_changed(NODES, 9, {(2,): (20,), (4,): None}, ()), [most_blocks(many) for many in (0, 3, 4, 15, 16, 100)], most_level(16), most_fresh(100, 101, 1)]
[(9, {}), [0, 1, 3, 8, 11, 66], 2, 8]
>>> tree_rows({9: TOP}, 9)
raises Refused(('lost', 6))
'''

LAST = 10 ** 18 - 1


def leaf(*keys):
    return node_cells(0, [((key,), (key,)) for key in keys])


def two_floors():
    """A sound tree of the level 2 and its blocks: the top 40, the nodes 30 and 31, the leaves 10 to 17."""
    blocks = {10 + at: leaf(10 * at, 10 * at + 5) for at in range(8)}
    blocks[30] = node_cells(1, [((10 * at,), 10 + at) for at in range(4)])
    blocks[31] = node_cells(1, [((10 * at,), 10 + at) for at in range(4, 8)])
    blocks[40] = node_cells(2, [((0,), 30), ((40,), 31)])
    return 40, blocks


class Nodes(Case):
    def test_examples(self):
        self.examples(EXAMPLES, {**vars(trees), "LEFT": LEFT, "RIGHT": RIGHT, "TOP": TOP})

    def test_nodes_that_are_told(self):
        self.same(node_told((0, 0)), (0, ()))
        for level in range(5):
            self.same(node_told((level, 0)), (level, ()))
            self.same(node_told((level, 1, 1, 5, 1, 7)), (level, (((5,), (7,)),)))
            self.same(node_told((level, 1, 3, LAST, 6, 7, 1, 239)), (level, (((LAST, 6, 7), (239,)),)))
            # At the level 0 the value of a member is no place.
            for cell in (240, LAST):
                told = (0, (((5,), (cell,)),)) if level == 0 else None
                self.same(node_told((level, 1, 1, 5, 1, cell)), told)
        self.same(node_told((0, 1, 1, 5, 8) + (7,) * 8), (0, (((5,), (7,) * 8),)))
        wide = node_cells(4, [((1, 1, at), at) for at in range(8)])
        self.same([len(wide), node_told(wide)[1][7]], [50, ((1, 1, 7), (7,))])

    def test_cells_that_tell_no_node(self):
        for wrong in ((), (0,), (1,), (5, 0), (LAST, 0), (0, 1), (0, 2, 1, 5, 1, 7), (0, 0, 1, 5, 1, 7), (0, 1, 1, 5, 1),
                      (0, 1, 1, 5, 1, 7, 0), (0, 1, 0, 1, 7), (0, 1, 1, 5, 0), (0, 1, 4, 1, 1, 1, 1, 1, 7),
                      (0, 2, 1, 5, 1, 7, 1, 5, 1, 7), (0, 2, 1, 5, 1, 7, 1, 4, 1, 7), (1, 1, 1, 5, 2, 7, 7),
                      (4, 1, 1, 5, 2, 7, 7), (1, 2, 1, 5, 1, 7, 1, 6, 2, 7, 7), (0, LAST, 1, 5, 1, 7)):
            self.assertIsNone(node_told(wrong), wrong)
            self.same(tree_fault({9: wrong}, 9), ("cells", 9))

    def test_against_the_words(self):
        rng = Random(61)
        for _ in range(3000):
            some = [rng.randrange(3), rng.randrange(3)]
            for _ in range(rng.randrange(4)):
                some += rng.choice(([1, rng.randrange(3), 1, rng.choice((5, 239, 240))], [2, rng.randrange(3), 0, 1, 5], [rng.randrange(4)]))
            told = told_node(tuple(some))
            self.same(node_told(tuple(some)), None if told is None else (told[0], tuple(told[1])))

    def test_bounds(self):
        self.assertIsNone(node_told((0,) * 52))
        self.refuses(InvalidBlock, None, lambda: node_told((0,) * 53))


class Faults(Case):
    def faults(self, blocks, root, wanted):
        """The faults of a tree are these, and all functions tell so."""
        self.same(tree_scan(blocks, root), slow_scan(blocks, root))
        self.same(tree_scan(blocks, root)[2], wanted)
        first = wanted[0] if wanted else None
        self.same(tree_fault(blocks, root), first)
        for call in (lambda: tree_rows(blocks, root), lambda: tree_blocks(blocks, root),
                     lambda: tree_get(blocks, root, (1,)), lambda: tree_between(blocks, root, (1,), (2,)),
                     lambda: tree_changed(blocks, root, {}, ()), lambda: is_tree_change(blocks, root, {}, (), None)):
            if first is not None:
                self.refuses(Refused, first, call)

    def test_the_tree_without_nodes(self):
        self.faults({}, 0, ())
        self.faults({0: (9, 9)}, 0, ())
        self.same(tree_scan(NODES, 0), ((), (), ()))
        self.same([tree_rows(NODES, 0), tree_blocks(NODES, 0), tree_get(NODES, 0, (1,)),
                   tree_between(NODES, 0, (1,), (9,))], [(), (), None, ()])

    def test_at_the_top(self):
        self.faults({}, 9, (("lost", 9),))
        self.faults({9: (0, 1, 5)}, 9, (("cells", 9),))
        for many in range(5):
            cells = leaf(*range(many))
            self.faults({9: cells}, 9, () if 1 <= many <= 3 else (("few", 9),))
            self.same(tree_scan({9: cells}, 9)[:2], ((), ()) if many == 0 else (
                tuple(((key,), (key,)) for key in range(many)), (9,)))
        for many in range(10):
            blocks = {10 + at: leaf(10 * at, 10 * at + 5) for at in range(many)}
            blocks[9] = node_cells(1, [((10 * at,), 10 + at) for at in range(many)])
            self.faults(blocks, 9, () if 2 <= many <= 8 else (("few", 9),))
            self.assertEqual(len(tree_scan(blocks, 9)[0]), 2 * many)

    def test_a_top_of_each_level(self):
        for level in range(1, 5):
            blocks = {9: node_cells(level, [((1,), 10), ((2,), 11)])}
            self.faults(blocks, 9, (("lost", 10), ("lost", 11)))
            self.same(tree_scan(blocks, 9)[:2], ((), (9,)))

    def test_at_a_leaf(self):
        for place in range(10, 18):
            root, blocks = two_floors()
            self.faults(blocks, root, ())
            key = 10 * (place - 10)
            for cells, word, taken in (
                    (None, "lost", False), ((), "cells", False), ((0, 2, 1, 5, 1, 7), "cells", False),
                    (node_cells(1, [((key + at,), 50) for at in range(4)]), "level", False),
                    (leaf(), "few", False), (leaf(key), "few", True), (leaf(*range(key, key + 4)), "few", True),
                    (leaf(key + 1), "few", False), (leaf(key, key + 1, key + 2, key + 10), "few", place == 17),
                    (leaf(key + 1, key + 2), "key", False),
                    (leaf(key, key + 10), "key", False) if place < 17 else (leaf(key - 1, key), "key", False),
                    (leaf(key, key + 9), None, True), (leaf(key, key + 1, key + 2), None, True)):
                wrong = {there: blocks[there] for there in blocks if there != place}
                if cells is not None:
                    wrong[place] = cells
                self.faults(wrong, root, () if word is None else ((word, place),))
                self.assertEqual(place in tree_scan(wrong, root)[1], taken)

    def test_amid_the_tree(self):
        root, blocks = two_floors()
        del blocks[30]
        self.faults(blocks, root, (("lost", 30),))
        self.same(tree_scan(blocks, root)[1], (14, 15, 16, 17, 31, 40))
        root, blocks = two_floors()
        blocks[31] = (1, 4)
        self.faults(blocks, root, (("cells", 31),))
        self.same(tree_scan(blocks, root)[1], (10, 11, 12, 13, 30, 40))
        blocks[31] = leaf(40, 41)
        self.faults(blocks, root, (("level", 31),))
        blocks[31] = node_cells(2, [((40,), 14), ((50,), 15), ((60,), 16), ((70,), 17)])
        self.faults(blocks, root, (("level", 31),))
        blocks[31] = node_cells(1, [((40,), 14), ((50,), 15), ((60,), 16)])
        self.faults(blocks, root, (("few", 31),))
        self.same(tree_scan(blocks, root)[1], (10, 11, 12, 13, 14, 15, 16, 30, 31, 40))
        blocks[31] = node_cells(1, [((39,), 14), ((50,), 15), ((60,), 16)])
        self.faults(blocks, root, (("few", 31),))
        self.same(tree_scan(blocks, root)[1], (10, 11, 12, 13, 30, 40))
        blocks[31] = node_cells(1, [((41,), 14), ((50,), 15), ((60,), 16), ((70,), 17)])
        self.faults(blocks, root, (("key", 31),))
        root, blocks = two_floors()
        blocks[30] = node_cells(1, [((0,), 10), ((10,), 11), ((20,), 12), ((40,), 13)])
        self.faults(blocks, root, (("key", 30),))
        root, blocks = two_floors()
        blocks[13] = leaf(30, 40)
        self.faults(blocks, root, (("key", 13),))

    def test_a_place_that_is_none(self):
        for place in (240, LAST):
            for top in (node_cells(1, [((1,), place), ((5,), 7)]), node_cells(1, [((1,), 6), ((5,), place)])):
                blocks = {6: LEFT, 7: RIGHT, 9: top}
                self.assertIsNone(node_told(top))
                self.faults(blocks, 9, (("cells", 9),))
                self.same(tree_scan(blocks, 9), ((), (), (("cells", 9),)))
                self.refuses(Refused, ("cells", 9), lambda: tree_rows(blocks, 9))
                self.refuses(Refused, ("cells", 9), lambda: tree_get(blocks, 9, (5,)))
                self.refuses(Refused, ("cells", 9), lambda: tree_changed(blocks, 9, {}, ()))
                self.refuses(Refused, ("cells", 9), lambda: reached_by(blocks, (7, 9)))
        self.faults({7: RIGHT, 9: node_cells(1, [((1,), 239), ((5,), 7)])}, 9, (("lost", 239),))
        self.faults({7: RIGHT, 9: node_cells(1, [((1,), 239), ((5,), 7)]), 239: LEFT}, 9, ())
        self.faults({9: node_cells(1, [((1,), 0), ((5,), 7)]), 7: RIGHT, 0: LEFT}, 9, ())
        self.same(tree_blocks({9: node_cells(1, [((1,), 0), ((5,), 7)]), 7: RIGHT, 0: LEFT}, 9), (0, 7, 9))

    def test_a_node_told_twice(self):
        self.faults({9: node_cells(1, [((1,), 6), ((5,), 6)]), 6: LEFT}, 9, (("key", 6),))
        self.faults({9: node_cells(1, [((1,), 9), ((5,), 7)]), 7: RIGHT}, 9, (("level", 9),))

    def test_two_faults_at_once(self):
        root, blocks = two_floors()
        blocks[17], blocks[11] = leaf(70), leaf(11, 12)
        del blocks[14]
        self.faults(blocks, root, (("key", 11), ("lost", 14), ("few", 17)))
        blocks[40] = node_cells(2, [((0,), 31), ((40,), 30)])
        self.faults(blocks, root, (("key", 31), ("key", 30)))
        blocks[40] = node_cells(2, [((0,), 30)])
        self.faults(blocks, root, (("few", 40), ("key", 11)))
        self.same(tree_scan(blocks, root)[1], (10, 12, 13, 30, 40))
        blocks[40] = node_cells(2, [((0,), 30), ((40,), 31)])
        blocks[30] = node_cells(1, [((0,), 10), ((10,), 11)])
        self.faults(blocks, root, (("few", 30), ("key", 11), ("lost", 14), ("few", 17)))

    def test_against_the_words(self):
        rng = Random(62)
        for turn in range(1500):
            rows = some_rows(rng.randrange(1, 70))
            root, blocks = random_tree(rng, rows, range(2, 120))
            self.assertEqual(slow_scan(blocks, root), (rows, tuple(sorted(blocks)), ()))
            self.same(tree_scan(blocks, root), (rows, tuple(sorted(blocks)), ()))
            for _ in range(rng.randrange(1, 4)):
                self.spoil(rng, blocks)
            self.same(tree_scan(blocks, root), slow_scan(blocks, root))
            fault = tree_fault(blocks, root)
            self.same(fault, (slow_scan(blocks, root)[2] + (None,))[0])
            if fault is None:
                self.same([tree_rows(blocks, root), tree_blocks(blocks, root)], list(slow_scan(blocks, root)[:2]))
            else:
                self.refuses(Refused, fault, lambda: tree_rows(blocks, root))

    def spoil(self, rng, blocks):
        place, other = rng.choice(sorted(blocks)), rng.choice(sorted(blocks))
        kind = rng.randrange(7)
        node = told_node(blocks[place])
        if kind == 0 and len(blocks) > 1:
            del blocks[place]
        elif kind == 1:
            blocks[place] = blocks[place][:-1]
        elif kind == 2:
            blocks[place], blocks[other] = blocks[other], blocks[place]
        elif kind == 3 and node:
            blocks[place] = node_cells(node[0], node[1][:-1])
        elif kind == 4 and node:
            blocks[place] = node_cells(node[0], node[1][1:])
        elif kind == 5 and node and node[1]:
            key = node[1][-1][0]
            blocks[place] = node_cells(node[0], node[1][:-1] + [((key[0] + rng.randrange(1, 3),), node[1][-1][1])])
        elif kind == 6 and blocks[place]:
            at = rng.randrange(len(blocks[place]))
            cells = blocks[place]
            blocks[place] = cells[:at] + (rng.randrange(9),) + cells[at + 1:]

    def test_sound_trees_of_many_sizes(self):
        rng = Random(63)
        for many in (0, 1, 2, 3, 4, 5, 6, 7, 15, 16, 17, 40, 100, 300):
            rows = some_rows(many)
            for _ in range(5):
                root, blocks = random_tree(rng, rows, range(240))
                self.same([tree_fault(blocks, root), tree_rows(blocks, root), tree_blocks(blocks, root)],
                          [None, rows, tuple(sorted(blocks))])
                self.assertLessEqual(len(blocks), most_blocks(many))

    def test_blocks_beside_the_tree_do_not_matter(self):
        self.same(tree_scan({**NODES, 3: (), 0: (1,), 239: TOP}, 9), tree_scan(NODES, 9))

    def test_not_true(self):
        # [6.6] a node with the fault few can tell rows of which others are gone.
        self.same(tree_scan({9: (0, 4) + leaf(1, 2, 3, 4)[2:]}, 9)[2], (("few", 9),))
        rng = Random(64)
        found = [random_tree(rng, some_rows(12), range(2, 40)) for _ in range(9)]
        self.assertGreater(len({tuple(sorted(blocks.values())) for _, blocks in found}), 1)


class Looking(Case):
    def test_get_and_between(self):
        rng = Random(65)
        keys = sorted((a,) + rest for a in range(9) for rest in ((), (0,), (0, 0), (1,), (LAST,)))
        for many in (0, 1, 2, 3, 4, 16, 30):
            rows = tuple((key, key) for key in sorted(rng.sample(keys, many)))
            root, blocks = random_tree(rng, rows, range(2, 60))
            for key in keys + [(99,), (LAST, LAST, LAST)]:
                self.same(tree_get(blocks, root, key), dict(rows).get(key))
            for _ in range(60):
                low, high = rng.choice(keys), rng.choice(keys)
                self.same(tree_between(blocks, root, low, high), tuple(row for row in rows if low <= row[0] < high))

    def test_bounds_of_between(self):
        self.same([tree_between(NODES, 9, (1,), (1,)), tree_between(NODES, 9, (7,), (1,)), tree_between(NODES, 9, (7,), (8,)),
                   tree_between(NODES, 9, (0,), (LAST,)) == tree_rows(NODES, 9), tree_between(NODES, 9, (8,), (9,)),
                   tree_between(NODES, 9, (5,), (5, 0)), tree_between(NODES, 9, (2, 0), (5,))],
                  [(), (), (((7,), (70,)),), True, (), (((5,), (50,)),), ()])
        self.same([tree_get(NODES, 9, key) for key in ((0,), (1,), (1, 0), (5,), (5, 0), (5, 0, 0), (7,), (8,))],
                  [None, (10,), None, (50,), (51,), None, (70,), None])


class Counts(Case):
    def test_against_all_ways(self):
        # All numbers of nodes that a level can have above so many things, down to one node.
        @lru_cache(None)
        def ways(things, low, least_top, high):
            """The pairs of the most nodes and the greatest level above, over all ways to part the things."""
            found = []
            if least_top <= things <= high:
                found.append((1, 0))
            for many in range(2, things // low + 1):
                if many * low <= things <= many * high:
                    nodes, level = ways(many, 4, 2, 8)
                    found.append((many + nodes, level + 1))
            return max(nodes for nodes, _ in found), max(level for _, level in found)
        self.same([most_blocks(0), most_level(0)], [0, 0])
        for many in range(1, 700):
            self.same((most_blocks(many), most_level(many)), ways(many, 2, 1, 3))

    def test_never_falls(self):
        found = [most_blocks(many) for many in range(3000)]
        self.same(found, sorted(found))
        levels = [most_level(many) for many in range(3000)]
        self.same(levels, sorted(levels))

    def test_great_numbers(self):
        counts = [500000, 125000, 31250, 7812, 1953, 488, 122, 30, 7, 1]
        self.same([most_blocks(10 ** 6), most_level(10 ** 6)], [sum(counts), 9])
        self.same(most_fresh(10 ** 6, 10 ** 6, 10 ** 6), sum(counts))
        self.same(most_fresh(10 ** 6, 10 ** 6, 1), 20)
        self.same(most_fresh(10 ** 6, 0, 10 ** 6), 0)
        self.same([most_blocks(2000), most_level(2000)], [1000 + 250 + 62 + 15 + 3 + 1, 5])

    def test_most_fresh_by_the_words(self):
        rng = Random(66)
        for _ in range(3000):
            before, after, changes = [rng.choice((0, 1, 2, 3, 4, 15, 16, 17, rng.randrange(400))) for _ in range(3)]
            level = max(0, len(slow_counts(before + changes)) - 1)
            self.same(most_fresh(before, after, changes), min(sum(slow_counts(after)), 2 * changes * (1 + level)))
        self.same([most_fresh(0, 0, 0), most_fresh(0, 1, 1), most_fresh(3, 4, 1), most_fresh(100, 101, 0)], [0, 1, 3, 0])
        self.same([most_fresh(100, 100, 1), most_fresh(15, 16, 1), most_fresh(14, 15, 1)], [8, 6, 4])


def key_arg(good):
    return Arg(good, is_key, InvalidRow, [(), (1, 1, 1, 1), (True,), [1], (-1,), (10 ** 18,)])


class Wrong(WrongCase):
    def test_node_told(self):
        some = [(True,), (-1,), (10 ** 18,), (None,), [0, 0], (0,) * 53]
        self.wrong_calls(node_told, [Arg((0, 0), lambda value: type(value) is tuple and len(value) < 53 and all(
            is_int(cell, 0, LAST) for cell in value), InvalidBlock, some)])

    def test_one_and_two(self):
        for function in (tree_fault, tree_scan, tree_rows, tree_blocks):
            self.wrong_calls(function, [blocks_arg(), number(9, 0, 239)])
        self.wrong_calls(tree_get, [blocks_arg(), number(9, 0, 239), key_arg((1,))])
        self.wrong_calls(tree_between, [blocks_arg(), number(9, 0, 239), key_arg((1,)), key_arg((7,))])

    def test_ahead_of_faults(self):
        # The blocks have a fault, which is told behind wrong arguments alone.
        broken = {9: TOP, 7: RIGHT}
        self.wrong_calls(tree_get, [blocks_arg(broken), number(9, 0, 239), key_arg((1,))])
        self.wrong_calls(tree_between, [blocks_arg(broken), number(9, 0, 239), key_arg((1,)), key_arg((7,))])
        self.refuses(Refused, ("lost", 6), lambda: tree_get(broken, 9, (7,)))
        self.refuses(Refused, ("lost", 6), lambda: tree_between(broken, 9, (7,), (1,)))
        self.refuses(Refused, ("lost", 239), lambda: tree_get(broken, 239, (7,)))

    def test_numbers(self):
        self.wrong_calls(most_blocks, [number(5, 0, 10 ** 6)])
        self.wrong_calls(most_level, [number(5, 0, 10 ** 6)])
        self.wrong_calls(most_fresh, [number(5, 0, 10 ** 6), number(6, 0, 10 ** 6), number(1, 0, 10 ** 6)])

    def test_nothing_is_changed(self):
        blocks = dict(NODES)
        for call in (tree_fault, tree_scan, tree_rows, tree_blocks):
            call(blocks, 9)
        tree_get(blocks, 9, (1,))
        tree_between(blocks, 9, (1,), (7,))
        self.same(blocks, NODES)
