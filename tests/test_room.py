from random import Random

from helpers import LEFT, RIGHT, TOP, Arg, Case, WrongCase, is_int, number
from everycut.errors import InvalidBlock, InvalidNumber, InvalidOperation, Refused, TooMany
from everycut.rows import room, trees
from everycut.rows.room import (
    does_fit, free_places, held_alone, most_rows, owners, reached_by, shelf_places)
from everycut.rows.trees import is_tree_change, most_blocks, tree_blocks, tree_changed, tree_fault, tree_rows
from tree_helpers import NODES, blocks_arg, node_cells, random_tree, slow_counts, slow_scan, some_rows

EXAMPLES = '''
>>> TREES = {6: LEFT, 7: RIGHT, 9: TOP, 10: (1, 2, 1, 1, 1, 6, 1, 3, 1, 12), 12: (0, 2, 1, 3, 1, 4, 1, 8, 1, 5)}
>>> [reached_by(TREES, (9, 10)), held_alone(TREES, (9, 10), 1), held_alone(TREES, (9, 9), 0), tree_rows(TREES, 10)]
[{6: (0, 1), 7: (0,), 9: (0,), 10: (1,), 12: (1,)}, (10, 12), (), (((1,), (10,)), ((2,), (20,)), ((3,), (4,)), ((8,), (5,)))]
>>> [owners(24, 4, TREES, (9,))[:10], free_places(24, 4, TREES, (9, 10))[:4], shelf_places(24, 4) == tuple(range(6, 24))]
[('head', 'head', 'log', 'log', 'log', 'log', 'rows', 'rows', 'free', 'rows'), (8, 11, 13, 14), True]
>>> [does_fit(18, (), 0, 15), does_fit(18, (), 15, 16), most_rows(18, (), 0), most_rows(18, (4,), 15), most_rows(18, (4, 16, 16), 0)]
[True, False, 15, 13, None]
>>> owners(24, 5, TREES, (9,))
raises Refused(('role', 6))
'''

TREES = {6: LEFT, 7: RIGHT, 9: TOP, 10: (1, 2, 1, 1, 1, 6, 1, 3, 1, 12), 12: (0, 2, 1, 3, 1, 4, 1, 8, 1, 5)}
MILLION = 10 ** 6


def slow_reached(blocks, roots):
    found = {}
    for place in range(240):
        there = tuple(index for index, root in enumerate(roots) if place in slow_scan(blocks, root)[1])
        if there:
            found[place] = there
    return found


def leaf_at(place):
    """A tree of one row at a place, and a tree of two such leaves that reaches the place."""
    return {place: node_cells(0, [((1,), (1,)), ((2,), (1,))])}


class Roles(Case):
    def test_examples(self):
        self.examples(EXAMPLES, {**vars(trees), **vars(room), "LEFT": LEFT, "RIGHT": RIGHT, "TOP": TOP})

    def test_constants(self):
        self.same([room.LEAST_SIZE, room.MOST_SIZE, room.LEAST_LOG, room.MOST_LOG, room.LEAST_SHELF, room.MOST_ROOTS],
                  [24, 240, 4, 40, 16, 16])

    def test_shelf_at_the_bounds(self):
        for log in range(4, 41):
            least = max(24, log + 18)
            for size in (least, least + 1, 240):
                self.same(shelf_places(size, log), tuple(range(2 + log, size)))
                self.same(owners(size, log, {}, ()), ("head",) * 2 + ("log",) * log + ("free",) * (size - log - 2))
                self.same(free_places(size, log, {}, (0,)), shelf_places(size, log))
            if log + 17 >= 24:
                for size in (24, log + 17):
                    for call in (lambda: shelf_places(size, log), lambda: owners(size, log, {}, ()),
                                 lambda: free_places(size, log, {}, ())):
                        self.refuses(TooMany, log, call)
        self.same([shelf_places(24, 6), len(shelf_places(240, 40)), len(shelf_places(58, 40))], [tuple(range(8, 24)), 198, 16])
        self.refuses(TooMany, 7, lambda: shelf_places(24, 7))
        self.refuses(TooMany, 40, lambda: shelf_places(57, 40))

    def test_each_place_has_one_role(self):
        rng = Random(81)
        for _ in range(40):
            log = rng.randrange(4, 20)
            size = rng.randrange(log + 60, 241)
            places = list(range(2 + log, size))
            rng.shuffle(places)
            blocks, roots = {}, []
            for part in (places[:25], places[25:50]):
                root, more = random_tree(rng, some_rows(rng.randrange(20)), part)
                blocks.update(more)
                roots.append(root)
            # A tree that shares nodes with the first one.
            free = tuple(sorted(places[50:]))
            rows = tree_rows(blocks, roots[0])
            if rows and len(free) > 30:
                root, more = tree_changed(blocks, roots[0], {rows[0][0]: (99,)}, free)
                blocks.update(more)
                roots.append(root)
            roots = tuple(roots + rng.sample(roots, 1) + [0])
            kept = dict(blocks)
            wanted = slow_reached(blocks, roots)
            self.same(reached_by(blocks, roots), wanted)
            roles = owners(size, log, blocks, roots)
            self.same(roles, tuple("head" if at < 2 else "log" if at < 2 + log else "rows" if at in wanted else "free"
                                   for at in range(size)))
            self.same(free_places(size, log, blocks, roots), tuple(at for at in range(2 + log, size) if at not in wanted))
            for at in range(len(roots)):
                self.same(held_alone(blocks, roots, at), tuple(place for place in wanted if wanted[place] == (at,)))
            self.same(blocks, kept)

    def test_free_exactly(self):
        roots = (9, 10, 0)
        rows = [tree_rows(TREES, root) for root in roots]
        roles = owners(24, 4, TREES, roots)
        for place in range(6, 24):
            touched = {**TREES, place: (0, 1, 1, 7, 1, 7)}
            without = {at: TREES[at] for at in TREES if at != place}
            if roles[place] == "free":
                self.same([tree_rows(touched, root) for root in roots], rows)
                self.same([tree_rows(without, root) for root in roots], rows)
            else:
                self.assertTrue(any(tree_fault(without, root) for root in roots))

    def test_roots(self):
        self.same([reached_by(TREES, ()), reached_by(TREES, (0,)), reached_by({}, (0, 0)), reached_by({}, (0,) * 16)],
                  [{}, {}, {}, {}])
        self.same(reached_by(TREES, (9, 9)), {6: (0, 1), 7: (0, 1), 9: (0, 1)})
        self.same(reached_by(TREES, (0, 9, 6)), {6: (1, 2), 7: (1,), 9: (1,)})
        self.same([held_alone(TREES, (0, 9, 6), at) for at in range(3)], [(), (7, 9), ()])
        self.same([held_alone(TREES, (9,), 0), held_alone(TREES, (9, 10), 0), held_alone(TREES, (10, 12), 1)],
                  [(6, 7, 9), (7, 9), ()])
        self.same(reached_by(TREES, (9,) * 16)[7], tuple(range(16)))
        self.same(held_alone(TREES, (0,) * 15 + (9,), 15), (6, 7, 9))
        for call in (lambda: reached_by(TREES, (9,) * 17), lambda: held_alone(TREES, (9,) * 17, 0),
                     lambda: owners(24, 4, TREES, (9,) * 17), lambda: free_places(24, 4, TREES, (0,) * 17)):
            self.refuses(InvalidOperation, None, call)
        self.refuses(InvalidNumber, 0, lambda: held_alone(TREES, (), 0))
        self.refuses(InvalidNumber, 2, lambda: held_alone(TREES, (9, 10), 2))

    def test_the_first_fault_of_the_first_tree(self):
        broken = {**TREES, 20: (1, 2, 1, 1, 1, 30, 1, 5, 1, 31), 21: (9,)}
        for roots, fault in (((20, 21), ("lost", 30)), ((21, 20), ("cells", 21)), ((9, 0, 20), ("lost", 30)),
                             ((9, 22, 20), ("lost", 22))):
            for call in (lambda: reached_by(broken, roots), lambda: held_alone(broken, roots, 0),
                         lambda: owners(24, 4, broken, roots), lambda: free_places(24, 5, broken, roots)):
                self.refuses(Refused, fault, call)

    def test_trees_that_reach_no_shelf(self):
        for size, log in ((24, 4), (30, 6), (239, 40)):
            for place in (1, 2, 1 + log, 2 + log, size - 1, size, 239):
                blocks = leaf_at(place)
                for call in (lambda: owners(size, log, blocks, (place,)), lambda: free_places(size, log, blocks, (0, place))):
                    if 2 + log <= place < size:
                        call()
                    else:
                        self.refuses(Refused, ("role", place), call)
                self.same(reached_by(blocks, (place,)), {place: (0,)})
        # The place 0 can be a member's place, though no root.
        blocks = {9: (1, 2, 1, 1, 1, 0, 1, 5, 1, 7), 0: LEFT, 7: RIGHT}
        self.refuses(Refused, ("role", 0), lambda: owners(24, 4, blocks, (9,)))
        self.refuses(Refused, ("role", 0), lambda: owners(24, 6, blocks, (9, 7)))
        # The least such place is told, whichever root reaches it.
        blocks = {**leaf_at(30), **leaf_at(4), **leaf_at(1)}
        self.refuses(Refused, ("role", 1), lambda: owners(24, 4, blocks, (30, 4, 1)))
        self.refuses(Refused, ("role", 4), lambda: owners(24, 4, blocks, (30, 4)))
        self.refuses(Refused, ("role", 30), lambda: owners(24, 4, blocks, (30,)))

    def test_not_true(self):
        # [7.4] what one root alone reaches is not free while it is the tree that stays.
        self.same(held_alone(TREES, (9, 10), 0), (7, 9))
        self.same([free_places(24, 4, TREES, (9,))[:3], does_fit(18, (5, 4), 0, 15)], [(8, 10, 11), False])
        # Rows that do not fit can be written, where their tree has fewer nodes than the most.
        self.assertIs(does_fit(18, (), 0, 16), False)
        root, blocks = random_tree(Random(1), some_rows(18), range(2, 30))
        self.assertLess(len(blocks), most_blocks(18))


class Room(Case):
    def test_against_the_words(self):
        def nodes(many):
            return sum(slow_counts(many))
        rng = Random(82)
        for _ in range(400):
            shelf = rng.choice((16, 17, 18, 60, 239, 240, rng.randrange(16, 241)))
            shots = tuple(rng.choice((0, 3, 4, 15, 16, 40)) for _ in range(rng.choice((0, 0, 1, 2, 3, 16))))
            last = rng.choice((0, 1, 15, 16, 50, 120, 300))
            fit = [now for now in range(420)
                   if sum(map(nodes, shots)) + nodes(now) + nodes(max(last, now)) <= shelf]
            self.same(most_rows(shelf, shots, last), fit[-1] if fit else None)
            # Fewer rows fit where more do.
            self.same(fit, list(range(len(fit))))
            for now in {0, 1, len(fit) - 1, len(fit), len(fit) + 1, 400} - {-1}:
                self.assertIs(does_fit(shelf, shots, last, now), now in fit)

    def test_at_the_bound(self):
        for shelf, shots, last, most in ((18, (), 0, 15), (18, (), 15, 15), (18, (4,), 15, 13), (16, (), 0, 15), (240, (), 0, 183),
                                         (16, (16,), 0, 3), (16, (0,) * 16, 0, 15)):
            self.same(most_rows(shelf, shots, last), most)
            self.same([does_fit(shelf, shots, last, most), does_fit(shelf, shots, last, most + 1)], [True, False])

    def test_not_even_none(self):
        self.same([most_rows(18, (4, 16, 16), 0), most_rows(16, (16, 16), 0), most_rows(16, (), 100), most_rows(240, (MILLION,), 0),
                   most_rows(240, (), MILLION), most_rows(16, (3,) * 16, 0), most_rows(16, (3,) * 15, 4)],
                  [None, None, None, None, None, 0, None])
        self.same([does_fit(16, (3,) * 16, 0, 0), does_fit(16, (3,) * 16, 0, 1), does_fit(16, (3,) * 16, 1, 0),
                   does_fit(16, (16,), 0, 0), does_fit(240, (), 0, MILLION), does_fit(240, (), MILLION, 0)],
                  [True, False, False, True, False, False])

    def test_a_turn_never_lacks_a_place(self):
        # [7.3] Trees of the told numbers of rows leave as many free places as most_blocks tells.
        rng = Random(83)
        for _ in range(60):
            size, log = 100, 4
            shelf = shelf_places(size, log)
            shots = tuple(rng.randrange(20) for _ in range(rng.randrange(3)))
            last = rng.randrange(60)
            now = most_rows(len(shelf), shots, last)
            places, blocks, roots = list(shelf), {}, []
            rng.shuffle(places)
            for many in shots + (last,):
                root, more = random_tree(rng, some_rows(many), places)
                places = [place for place in places if place not in more]
                blocks.update(more)
                roots.append(root)
            if now is None:
                continue
            free = free_places(size, log, blocks, tuple(roots))
            self.assertGreaterEqual(len(free), most_blocks(now))
            before = dict(tree_rows(blocks, roots[-1]))
            wanted = {key: (5,) for key, _ in some_rows(now)}
            changes = {**{key: None for key in before}, **wanted}
            root, fresh = tree_changed(blocks, roots[-1], changes, free)
            self.assertIs(is_tree_change(blocks, roots[-1], changes, free, (root, fresh)), True)
            self.same(len(tree_rows({**blocks, **fresh}, root)), now)
            behind = free_places(size, log, {**blocks, **fresh}, tuple(roots[:-1]) + (root,))
            self.assertGreaterEqual(len(behind), most_blocks(now))


def roots_arg(good=(9,)):
    more = [(240,), (-1,), (True,), (9, None), ("a",), [9], (9,) * 17, ((9,),), {9: 9}, (10 ** 60,)]
    return Arg(good, lambda value: type(value) is tuple and all(is_int(root, 0, 239) for root in value)
               and len(value) < 17, InvalidOperation, more)


def shots_arg(good=(4,)):
    more = [(MILLION + 1,), (-1,), (True,), (9, None), ("a",), [9], (0,) * 17, ((9,),), {9: 9}]
    return Arg(good, lambda value: type(value) is tuple and all(is_int(many, 0, MILLION) for many in value)
               and len(value) < 17, InvalidOperation, more)


class Wrong(WrongCase):
    def test_roles(self):
        size, log = number(30, 24, 240), number(5, 4, 40)
        self.wrong_calls(shelf_places, [size, log])
        self.wrong_calls(reached_by, [blocks_arg(), roots_arg()])
        self.wrong_calls(held_alone, [blocks_arg(), roots_arg((9, 9)), number(1, 0, 1)])
        for function in (owners, free_places):
            self.wrong_calls(function, [size, log, blocks_arg(), roots_arg()])

    def test_room(self):
        shelf, rows = number(30, 16, 240), number(9, 0, MILLION)
        self.wrong_calls(does_fit, [shelf, shots_arg(), rows, number(0, 0, MILLION)])
        self.wrong_calls(most_rows, [shelf, shots_arg(), rows])

    def test_then(self):
        # What comes with "then" is behind all wrong arguments: TooMany, the fault, the role.
        size, log = number(40, 24, 240), number(40, 4, 40)
        broken = {9: TOP, 7: RIGHT}
        self.wrong_calls(shelf_places, [size, log])
        self.wrong_calls(held_alone, [blocks_arg(broken), roots_arg(), number(0, 0, 0)])
        self.refuses(Refused, ("lost", 6), lambda: held_alone(broken, (9,), 0))
        for function in (owners, free_places):
            self.wrong_calls(function, [size, log, blocks_arg(broken), roots_arg()])
            self.refuses(TooMany, 40, lambda: function(40, 40, broken, (9,)))
            self.refuses(Refused, ("lost", 6), lambda: function(40, 6, broken, (9,)))
            self.refuses(Refused, ("lost", 6), lambda: function(40, 6, broken, (7, 9)))
            self.refuses(Refused, ("role", 7), lambda: function(40, 6, broken, (7,)))
            self.refuses(InvalidBlock, None, lambda: function(40, 40, {9: 9}, (240,)))
            self.refuses(InvalidOperation, None, lambda: function(40, 40, {}, (240,)))
        self.refuses(TooMany, 23, lambda: shelf_places(40, 23))

    def test_results_are_new(self):
        found = reached_by(NODES, (9,))
        found.clear()
        self.same(reached_by(NODES, (9,)), {6: (0,), 7: (0,), 9: (0,)})
        self.same(tree_blocks(NODES, 9), (6, 7, 9))
