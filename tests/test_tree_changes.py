from itertools import combinations
from random import Random

from helpers import LEFT, RIGHT, TOP, Arg, Case, WrongCase, anything, is_int, number, raised
from everycut.errors import InvalidOperation, InvalidRow, Refused
from everycut.rows.cells import rows_changed
from everycut.rows.trees import (
    is_tree_change, most_fresh, tree_blocks, tree_changed, tree_fault, tree_rows)
from tree_helpers import (
    NODES, blocks_arg, node_cells, random_tree, slow_is_change, slow_most_fresh, slow_scan, some_rows)

LAST = 10 ** 18 - 1
FREE = tuple(range(100, 240))


def random_changes(rng, rows, many):
    """So many changes of rows: new keys, other values, equal values, keys taken away, keys that are not there."""
    changes = {}
    there = [key for key, _ in rows]
    for _ in range(many):
        kind = rng.randrange(5)
        key = rng.choice(there) if there and kind < 3 else tuple(rng.randrange(30) for _ in range(rng.randrange(1, 4)))
        changes[key] = None if kind == 0 else (rng.randrange(3),) * rng.randrange(1, 9)
        if kind == 1 and there:
            changes[key] = dict(rows)[key]
        elif kind == 4 and rng.randrange(2):
            changes[key] = None
    return changes


class Changed(Case):
    def change(self, blocks, root, changes, free):
        """The changed root and blocks; all that is promised of the result is checked."""
        kept, kept_changes = dict(blocks), dict(changes)
        rows = tree_rows(blocks, root)
        wanted = rows_changed(rows, changes)
        unlike = {key for key, value in changes.items() if dict(rows).get(key) != value}
        most = slow_most_fresh(len(rows), len(wanted), len(unlike))
        found = tree_changed(blocks, root, changes, free)
        self.same([type(found), len(found)], [tuple, 2])
        top, fresh = found
        self.same(list(fresh), sorted(fresh))
        self.assertTrue(all(place in free for place in fresh))
        self.assertLessEqual(len(fresh), most)
        both = {**blocks, **fresh}
        self.assertEqual(slow_scan(both, top)[::2], (wanted, ()))
        self.assertTrue(set(fresh) <= set(tree_blocks(both, top)))
        self.same([tree_fault(both, top), tree_rows(both, top), tree_rows(both, root)], [None, wanted, rows])
        self.assertIs(is_tree_change(blocks, root, changes, free, found), True)
        self.assertTrue(slow_is_change(blocks, root, changes, found, free))
        self.same(found, tree_changed(blocks, root, changes, free))
        self.same([blocks, changes], [kept, kept_changes])
        if not unlike:
            self.same(found, (root, {}))
        return top, both

    def lean(self, blocks, root):
        return {place: blocks[place] for place in tree_blocks(blocks, root)}

    def test_one_change_of_each_size(self):
        rng = Random(71)
        for many in (0, 1, 2, 3, 4, 5, 15, 16, 17, 40, 150):
            rows = some_rows(many, 2)
            for _ in range(12):
                root, blocks = random_tree(rng, rows, range(2, 100))
                for _ in range(8):
                    changes = random_changes(rng, rows, 1)
                    after = rows_changed(rows, changes)
                    least = most_fresh(many, len(after), 1 if after != rows else 0)
                    free = tuple(sorted(rng.sample(FREE, least)))
                    self.change(blocks, root, changes, free)

    def test_many_changes_at_once(self):
        rng = Random(72)
        for many in (0, 1, 2, 3, 4, 16, 40, 120):
            rows = some_rows(many)
            for _ in range(15):
                root, blocks = random_tree(rng, rows, range(2, 100))
                changes = random_changes(rng, rows, rng.choice((2, 3, 5, 20, 60, 100)))
                self.change(blocks, root, changes, FREE)

    def test_changes_of_all_rows(self):
        rng = Random(73)
        for many in (1, 2, 3, 4, 16, 40, 100):
            rows = some_rows(many)
            root, blocks = random_tree(rng, rows, range(2, 100))
            gone = {key: None for key, _ in rows}
            self.same(tree_changed(blocks, root, gone, ()), (0, {}))
            self.change(blocks, root, gone, ())
            self.change(blocks, root, {**gone, (7, 7, 7): (1,)}, FREE)
            self.change(blocks, root, {key: (9,) for key in gone}, FREE)
            others = {**gone, **{(key[0] + 50,) + key[1:]: (4,) for key in gone}}
            self.change(blocks, root, others, FREE)
            self.change({}, 0, {key: (9,) for key in gone}, FREE)

    def test_some_hundred_rows(self):
        rows = some_rows(300)
        root, fresh = tree_changed({}, 0, dict(rows), tuple(range(2, 240)))
        self.assertEqual(slow_scan(fresh, root), (rows, tuple(sorted(fresh)), ()))
        # More changes than rows that are left: only the rows behind count for the places.
        changes = {(key[0], 1, 1): (1,) for key, _ in rows[:100:3]}
        changes.update({key: None for key, _ in rows[10:]})
        free = tuple(place for place in range(2, 240) if place not in fresh)
        top, both = self.change(fresh, root, changes, free)
        self.same(len(tree_rows(both, top)), 44)

    def test_each_change_of_small_trees(self):
        keys = [(at,) for at in range(5)]
        rng = Random(74)
        for many in range(5):
            for there in combinations(keys, many):
                rows = tuple((key, (1,)) for key in there)
                root, blocks = random_tree(rng, rows, range(2, 20))
                for asked in combinations(keys, 2):
                    for values in (((1,), None), (None, None), ((2,), (2,)), (None, (2,))):
                        self.change(blocks, root, dict(zip(asked, values)), tuple(range(20, 30)))

    def test_again_and_again_on_free_places_alone(self):
        rng = Random(75)
        root, blocks, kept = 0, {}, []
        for turn in range(300):
            elder = [(there, tree_rows(blocks, there)) for there in kept]
            held = {place for there in kept + [root] for place in tree_blocks(blocks, there)}
            free = tuple(place for place in range(2, 240) if place not in held)
            rows = tree_rows(blocks, root)
            # Up to forty rows and down to none again.
            if turn % 40 == 39:
                changes = {key: None for key, _ in rows}
            elif turn % 40 > 25:
                changes = {key: None for key, _ in rng.sample(rows, min(len(rows), 3))}
            else:
                changes = random_changes(rng, rows, rng.choice((1, 1, 2, 4)))
            root, blocks = self.change(blocks, root, changes, free)
            for there, told in elder:
                self.same(tree_rows(blocks, there), told)
            kept = (kept + [root])[-4:]

    def test_up_and_down_one_by_one(self):
        for order in (1, -1):
            root, blocks = 0, {}
            keys = [(at, at) for at in range(60)][::order]
            for value in ((1,), (2,), None):
                for key in keys:
                    held = tree_blocks(blocks, root)
                    free = tuple(place for place in range(2, 240) if place not in held)
                    root, blocks = self.change(self.lean(blocks, root), root, {key: value}, free)
            self.same(root, 0)

    def test_wide_rows_fit_into_blocks(self):
        rows = {(LAST, LAST, at): (LAST,) * 8 for at in range(100)}
        root, blocks = self.change({}, 0, rows, FREE)
        self.assertLessEqual(max(len(cells) for cells in blocks.values()), 52)
        self.change(self.lean(blocks, root), root, {(LAST, LAST, 50): None, (0, 0, 0): (1,)}, tuple(range(2, 100)))

    def test_no_difference(self):
        for changes in ({}, {(1,): (10,)}, {(3,): None}, {(1,): (10,), (2,): (20,), (9, 9): None}):
            self.same(tree_changed(NODES, 9, changes, ()), (9, {}))
            self.same(tree_changed(NODES, 9, changes, (10, 11)), (9, {}))
            self.assertIs(is_tree_change(NODES, 9, changes, (), (9, {})), True)
            self.assertIs(is_tree_change(NODES, 9, changes, FREE, (100, {100: TOP})), False)
        self.same(tree_changed({}, 0, {(1,): None}, ()), (0, {}))

    def test_places_of_free_may_lie_in_blocks(self):
        blocks = {**NODES, 10: TOP, 11: (9,)}
        root, fresh = tree_changed(blocks, 9, {(1,): None}, (10, 11, 12, 13))
        self.same(tree_rows({**blocks, **fresh}, root), tree_rows(NODES, 9)[1:])
        self.assertIs(is_tree_change(blocks, 9, {(1,): None}, (10, 11, 12, 13), (root, fresh)), True)

    def test_just_the_places_that_are_needed(self):
        changes = {(2,): (21,)}
        self.same(most_fresh(5, 5, 1), 3)
        for many in range(6):
            free = tuple(range(100, 100 + many))
            for call in (lambda: tree_changed(NODES, 9, changes, free), lambda: is_tree_change(NODES, 9, changes, free, None)):
                if many < 3:
                    self.refuses(Refused, ("room",), call)
                else:
                    self.assertIsNone(raised(call))

    def test_results_are_new(self):
        root, fresh = tree_changed(NODES, 9, {(2,): (21,)}, FREE)
        kept = dict(fresh)
        fresh.clear()
        self.same(tree_changed(NODES, 9, {(2,): (21,)}, FREE), (root, kept))


class Judged(Case):
    def judge(self, blocks, root, changes, free, value, wanted):
        self.assertIs(is_tree_change(blocks, root, changes, free, value), wanted, value)

    def near(self, value, wanted):
        """Judged for the change of (2,) to (21,) in the tree of the examples."""
        self.judge(NODES, 9, {(2,): (21,)}, (100, 101, 102, 103), value, wanted)

    def test_right_ones_built_in_other_ways(self):
        leaf = (0, 2, 1, 1, 1, 10, 1, 2, 1, 21)
        top = (1, 2, 1, 1, 1, 101, 1, 5, 1, 7)
        self.near((100, {100: top, 101: leaf}), True)
        self.near((100, {101: leaf, 100: top}), True)
        self.near((103, {101: leaf, 103: top}), True)
        # The rows parted in another way, with three fresh nodes.
        three = node_cells(0, [((1,), (10,)), ((2,), (21,)), ((5,), (50,))])
        two = node_cells(0, [((5, 0), (51,)), ((7,), (70,))])
        other = node_cells(1, [((1,), 101), ((5, 0), 103)])
        self.near((100, {100: other, 101: three, 103: two}), True)
        self.near((100, {100: node_cells(1, [((1,), 101), ((5,), 103)]), 101: leaf, 103: RIGHT}), True)

    def test_near_right_ones(self):
        leaf = (0, 2, 1, 1, 1, 10, 1, 2, 1, 21)
        top = (1, 2, 1, 1, 1, 101, 1, 5, 1, 7)
        right = {100: top, 101: leaf}
        self.near((100, right), True)
        for wrong in ((9, {}), (100, {}), (0, {}), (0, right), (9, right), (101, right), (102, right), (100, {100: top}),
                      (100, {101: leaf}), [100, right], (100, right, 1), (100,), (100, None), (True, right), (None, right),
                      ("a", right), (-1, right), (240, right), (100, list(right.items())), (100, tuple(right.items())),
                      # A fresh node that is not reached; a block too many.
                      (100, {**right, 102: leaf}), (100, {**right, 102: (0, 0)}), (100, {**right, 102: ()}),
                      # A place that is not free.
                      (6, {6: leaf, 100: top}), (9, {9: top, 101: leaf}), (9, {9: (1, 2, 1, 1, 1, 6, 1, 5, 1, 7), 6: leaf}),
                      (99, {99: top, 101: leaf}), (104, {104: top, 101: leaf}), (100, {100: top, 101: leaf, 240: ()}),
                      # Wrong rows, of other values, one too few, one too many.
                      (100, {100: top, 101: LEFT}), (100, {100: top, 101: (0, 2, 1, 1, 1, 10, 1, 2, 1, 22)}),
                      (100, {100: top, 101: (0, 3, 1, 1, 1, 10, 1, 2, 1, 21, 1, 3, 1, 1)}),
                      (100, {100: top, 101: (0, 2, 1, 1, 1, 10, 1, 2, 2, 21, 0)}),
                      # A tree with faults.
                      (100, {100: top, 101: (0, 1, 1, 1, 1, 10)}), (100, {100: top, 101: (0, 2, 1, 1, 1, 10)}),
                      (100, {100: (1, 2, 1, 0, 1, 101, 1, 5, 1, 7), 101: leaf}), (100, {100: top + (0,), 101: leaf}),
                      (100, {100: (2,) + top[1:], 101: leaf}), (100, {100: (1, 2, 1, 1, 1, 101, 1, 5, 1, 8), 101: leaf}),
                      # Values of other kinds amid it.
                      (100, {100: top, 101: list(leaf)}), (100, {100: top, 101: (False,) + leaf[1:]}),
                      (100, {100: (True,) + top[1:], 101: leaf}), (100, {100: top, 101: None}),
                      (100, {"100": top, 101: leaf}), (100, {100: top, 101: leaf, None: ()}),
                      (100, {100: top, 101: leaf, 102: (0,) * 53}), (100, {100: top, 101: leaf[:-1] + (10 ** 18,)})):
            self.near(wrong, False)
        for value in anything():
            self.near(value, False)

    def test_right_rows_in_a_tree_with_faults(self):
        free = (100, 101, 102, 103)
        # A leaf of four rows at the top, a leaf of one row, a top with one member, a node that is lost.
        four = node_cells(0, [((at,), (1,)) for at in range(4)])
        self.judge({}, 0, {(at,): (1,) for at in range(4)}, free, (100, {100: four}), False)
        pair = {101: node_cells(0, [((0,), (1,)), ((1,), (1,))]), 102: node_cells(0, [((2,), (1,)), ((3,), (1,))])}
        top = node_cells(1, [((0,), 101), ((2,), 102)])
        self.judge({}, 0, {(at,): (1,) for at in range(4)}, free, (100, {100: top, **pair}), True)
        one = {101: node_cells(0, [((0,), (1,)), ((1,), (1,)), ((2,), (1,))]), 102: node_cells(0, [((3,), (1,))])}
        top = node_cells(1, [((0,), 101), ((3,), 102)])
        self.judge({}, 0, {(at,): (1,) for at in range(4)}, free, (100, {100: top, **one}), False)
        top = node_cells(1, [((0,), 101)])
        self.judge({101: pair[101]}, 101, {}, free[2:], (100, {}), False)
        self.judge({101: pair[101], 99: top}, 101, {}, free[2:], (99, {}), False)
        top = node_cells(1, [((0,), 101), ((2,), 102), ((9,), 103)])
        self.judge({}, 0, {(at,): (1,) for at in range(5)}, free,
                   (100, {100: top, 101: pair[101], 102: node_cells(0, [((at,), (1,)) for at in (2, 3, 4)])}), False)

    def test_true_is_no_place(self):
        # A place 1 can never be free, so True as the root or as a place is refused in any case; 0 and False too.
        self.judge({}, 0, {}, (), (0, {}), True)
        self.judge({}, 0, {}, (), (False, {}), False)
        self.judge({}, 0, {(1,): (1,)}, (2, 3), (2, {2: (0, 1, 1, 1, 1, 1)}), True)
        self.judge({}, 0, {(1,): (1,)}, (2, 3), (2, {2: (0, True, 1, 1, 1, 1)}), False)

    def test_too_many_fresh_nodes(self):
        # One change of sixteen rows may take 2 * 3 fresh nodes, though W of the rows is 11.
        rng = Random(76)
        rows = some_rows(16)
        root, blocks = random_tree(rng, rows, range(2, 30))
        changes = {rows[3][0]: (77,)}
        wanted = rows_changed(rows, changes)
        seen = {True: 0, False: 0}
        for _ in range(60):
            top, fresh = random_tree(rng, wanted, range(100, 130))
            right = len(fresh) <= most_fresh(16, 16, 1)
            self.same(most_fresh(16, 16, 1), 6)
            self.judge(blocks, root, changes, tuple(range(100, 130)), (top, fresh), right)
            seen[right] += 1
        self.assertTrue(seen[False] > 0)
        self.judge(blocks, root, {}, (), (root, {}), True)

    def test_all_ways_of_building(self):
        rng = Random(77)
        for _ in range(300):
            rows = some_rows(rng.randrange(0, 14))
            root, blocks = random_tree(rng, rows, range(2, 20))
            changes = {(at,): rng.choice((None, (1,), (2,))) for at in rng.sample(range(9), rng.randrange(1, 9))}
            wanted = rows_changed(rows, changes)
            top, fresh = random_tree(rng, wanted, range(100, 130))
            spoiled = dict(fresh)
            if fresh and rng.randrange(2):
                place = rng.choice(sorted(fresh))
                cells = fresh[place]
                at = rng.randrange(len(cells))
                spoiled[place] = cells[:at] + (rng.randrange(3),) + cells[at + 1:]
            value = (top, spoiled)
            free = tuple(range(100, 130))
            self.judge(blocks, root, changes, free, value, slow_is_change(blocks, root, changes, value, free))

    def test_other_roots_of_the_blocks(self):
        # A tree that lies there already is right, if it has the rows changed.
        blocks = {**NODES, 20: (0, 1, 1, 1, 1, 10), 21: (0, 1, 1, 1, 1, 10)}
        self.judge(blocks, 20, {}, (), (21, {}), True)
        self.judge(blocks, 6, {(2,): None}, (100, 101), (20, {}), True)
        self.judge(blocks, 6, {(2,): None}, (100, 101), (6, {}), False)
        self.judge(blocks, 20, {(1,): None}, (), (0, {}), True)


def free_arg(good):
    more = [(1, 2), (2, 2), (3, 2), (0,), (240,), (2, 240), (True, 2), (2, None), [2, 3], ("a",), {2: 3}]
    return Arg(good, lambda value: type(value) is tuple and all(is_int(place, 2, 239) for place in value)
               and list(value) == sorted(set(value)), InvalidOperation, more)


def changes_arg(good):
    more = [{(1,): ()}, {(): None}, {(1,): 1}, {(True,): None}, {(1,): [1]}, ((1,), None),
            {(at,): None for at in range(2001)}]
    return Arg(good, lambda value: value == {} and type(value) is dict, InvalidRow, more)


class Wrong(WrongCase):
    def test_one_and_two(self):
        args = [blocks_arg(), number(9, 0, 239), changes_arg({(2,): (21,)}), free_arg(FREE)]
        self.wrong_calls(tree_changed, args)
        self.wrong_calls(lambda *given: is_tree_change(*given, None), args)

    def test_then(self):
        broken = {9: TOP, 7: RIGHT}
        for function in (tree_changed, lambda *given: is_tree_change(*given, None)):
            self.wrong_calls(function, [blocks_arg(broken), number(9, 0, 239), changes_arg({(2,): (21,)}), free_arg((7,))])
            self.refuses(Refused, ("lost", 6), lambda: function(broken, 9, {(2,): (21,)}, (7,)))
            self.refuses(InvalidOperation, None, lambda: function(NODES, 9, {(2,): (21,)}, (7,)))
            self.refuses(InvalidOperation, None, lambda: function(NODES, 9, {(2,): (21,)}, (5, 6, 100, 101, 102)))
            self.refuses(InvalidOperation, None, lambda: function(NODES, 9, {}, (9,)))
            self.refuses(Refused, ("room",), lambda: function(NODES, 9, {(2,): (21,)}, ()))
            self.refuses(Refused, ("room",), lambda: function(NODES, 9, {(2,): (21,)}, (100, 101)))
            self.assertIsNone(raised(lambda: function(NODES, 6, {(2,): (21,)}, (7, 9))))
            self.assertIsNone(raised(lambda: function(NODES, 0, {}, (6, 7, 9))))

    def test_two_thousand_changes(self):
        changes = {(at, 5): None for at in range(2000)}
        self.same(tree_changed(NODES, 9, changes, ()), (9, {}))
        changes = {(at, 5): (1,) for at in range(2000)}
        self.refuses(Refused, ("room",), lambda: tree_changed(NODES, 9, changes, tuple(range(10, 240))))
