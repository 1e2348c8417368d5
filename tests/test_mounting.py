"""Mounting [13.4] on pairs that the tests write themselves, block by block."""

from random import Random

from helpers import Case, pair_state, raised
from everycut.errors import NoRoom, Refused
from everycut.keep.heads import found_head, write_head
from everycut.keep.log import read_log, record_parts
from everycut.keep.shots import reached_places
from everycut.keep.volumes import meaning, mount
from everycut.outside.blocks import made_block
from everycut.outside.pairs import fresh_pair
from everycut.plain.coding import rows_of_tree
from everycut.plain.trees import Tree, done
from everycut.rows.trees import most_blocks
from plain_helpers import done_deeds
from tree_helpers import node_cells
from volume_helpers import dense_tree, drawn_behind, foreign_pair, put_tree, seeds, small_tree

MAKE = ("make", ("a",))
TREE = small_tree(("folder", ("a",)), ("make", ("b",)))
ROWS = rows_of_tree(TREE)


def leaf(rows):
    return node_cells(0, rows)


class Meaning(Case):
    def test_drawn_trees_and_records(self):
        rng = Random(180)
        for _ in seeds(0, 25):
            found, tree, _ = done_deeds(rng, rng.randrange(1, 12), "abc", bars=0)
            shot = found[rng.randrange(len(found))][2]
            root, blocks, left = put_tree(rng, tree, range(12, 120))
            shot_root, more, _ = put_tree(rng, shot, left)
            number = found[-1][0] + 1
            behind, later, _ = done_deeds(rng, 4, "xyz", bars=0, first=number)
            deeds = [(at, deed) for at, deed, _ in behind]
            records = [(5, at, (), deed) for at, deed in deeds if at % 3]
            taken = tree
            for _, at, _, deed in records:
                taken = done(taken, at, deed) if raised(lambda: done(taken, at, deed)) is None else None
                if taken is None:
                    break
            pair = foreign_pair(120, (5, 10, number, root, (("s", shot_root),)), {**blocks, **more}, records[:10])
            if taken is None:
                self.same(raised(lambda: meaning(pair)).reason[0], "deed")
                continue
            before = pair_state(pair)
            self.same([meaning(pair).facts, meaning(pair).shot("s").facts], [taken.facts, shot.facts])
            self.assertEqual(pair_state(pair), before)
            volume = mount(pair)
            self.same([volume.tree.facts, volume.tree.shots, volume.turns, volume.log], [taken.facts, ("s",), 6, 10])
            self.same(volume.number, max([number] + [at + 1 for _, at, _, _ in records]))
            self.assertEqual(meaning(drawn_behind(rng, pair)), volume.tree)

    def test_not_taken(self):
        # A record that waits for one which is not there is void, and its number is free again.
        records = [(3, 7, (6,), ("make", ("x",))), (3, 5, (), ("make", ("y",))), (3, 9, (5,), ("folder", ("z",))), (2, 6, (), MAKE), (4, 6, (), MAKE)]
        pair = foreign_pair(40, (3, 8, 5, 14, ()), {12: leaf(ROWS[:2]), 13: leaf(ROWS[2:]), 14: node_cells(1, [(ROWS[0][0], 12), (ROWS[2][0], 13)])}, records)
        wanted = done(done(TREE, 5, ("make", ("y",))), 9, ("folder", ("z",)))
        self.same(meaning(pair).facts, wanted.facts)
        volume = mount(pair)
        self.same([volume.number, volume.tree.facts, volume.turns], [10, wanted.facts, 4])
        # The block with the later turn was written without cells: the record 6 of turn 4 is not there.
        self.same([read_log(pair, 8, 4), pair.read_block(6)[2], pair.read_block(5)[2][:2]], [{}, (), (2, 6)])
        volume.do(("make", ("q",)))
        self.same(mount(pair.copied()).tree.facts, volume.tree.facts)

    def test_the_next_number(self):
        for number, records, wanted in ((9, [], 9), (9, [(3, 4, (), MAKE)], 9), (9, [(3, 8, (), MAKE)], 9), (9, [(3, 9, (), MAKE)], 10),
                                        (9, [(3, 20, (), MAKE), (3, 30, (25,), ("make", ("x",)))], 21), (1, [(3, 10 ** 12, (), ("order",))], 10 ** 12 + 1)):
            pair = foreign_pair(30, (3, 6, number, 0, ()), {}, records)
            self.same([mount(pair).number, found_head(pair)[2]], [wanted, wanted])


class Refusing(Case):
    def refused(self, pair, reason):
        before = pair_state(pair)
        self.refuses(Refused, reason, lambda: meaning(pair))
        self.refuses(Refused, reason, lambda: mount(pair))
        self.assertEqual(pair_state(pair), before)

    def test_no_head(self):
        pair = fresh_pair(30)
        self.refused(pair, ("head",))
        pair.write_block(0, (3, 4, 1, 0, 0))
        self.refused(pair, ("head",))
        pair.write_block(1, (2, 4, 1, 0, 0))
        pair.flush()
        self.refused(pair, ("head",))
        pair.write_block(0, (2, 4, 1, 0, 0))
        self.same(meaning(pair).facts, {})

    def test_faults_of_nodes_and_of_rows(self):
        empty = small_tree(("folder", ("a",)))
        whole = leaf(rows_of_tree(empty))
        cases = [
            ({}, 12, (), ("rows", ("lost", 12))),
            ({12: (9,)}, 12, (), ("rows", ("cells", 12))),
            ({12: node_cells(1, [(ROWS[0][0], 13), (ROWS[2][0], 14)]), 13: leaf(ROWS[:2])}, 12, (), ("rows", ("lost", 14))),
            ({12: leaf([((7,), (1,)), ((8,), (1,))])}, 12, (), ("rows", ("row", (7,)))),
            ({12: leaf([((1, 16), (1,))])}, 12, (), ("rows", ("kind", 16))),
            ({12: leaf([((2, 0, 27 ** 7), (16,))])}, 12, (), ("rows", ("name", 0, "a"))),
            # The first fault of several, in the sequence of [6.2]; one of a node ahead of one of rows.
            ({12: node_cells(1, [(ROWS[0][0], 14), (ROWS[2][0], 13)])}, 12, (), ("rows", ("lost", 14))),
            ({12: node_cells(1, [((1, 16), 13), ((7,), 14)]), 13: leaf([((1, 16), (2,)), ((2, 0, 1), (1,))]), 14: (5,)}, 12, (), ("rows", ("cells", 14))),
            ({12: leaf([((1, 16), (2,)), ((3, 16), (97,))])}, 12, (), ("rows", ("row", (1, 16)))),
            # The root first, and then the shots, by names.
            ({12: whole}, 12, (("a", 12), ("b", 13), ("c", 14)), ("rows", ("lost", 13))),
            ({12: whole, 13: (3,)}, 14, (("a", 13),), ("rows", ("lost", 14))),
            ({12: whole, 13: leaf([((1, 16), (1,))])}, 12, (("a", 13), ("b", 14)), ("rows", ("kind", 16))),
            ({12: whole, 13: leaf([((1, 16), (1,))])}, 0, (("a", 12), ("b", 14), ("c", 13)), ("rows", ("lost", 14))),
        ]
        for blocks, root, shots, reason in cases:
            self.refused(foreign_pair(30, (4, 6, 5, root, shots), blocks), reason)
            # Ahead of a deed that is refused.
            self.refused(foreign_pair(30, (4, 6, 5, root, shots), blocks, [(4, 5, (), ("drop", ("x",)))]), reason)

    def test_deeds_of_taken_records(self):
        for records, number in (([(4, 5, (), ("drop", ("x",)))], 5), ([(4, 5, (), MAKE), (4, 6, (), MAKE)], 6), ([(4, 7, (), ("unsnap", "s")), (4, 6, (), ("back", "s"))], 6),
                                ([(4, at, (), ("snap", "abcdefg"[at - 1])) for at in range(1, 7)][:6], None)):
            pair = foreign_pair(40, (4, 8, 5, 0, ()), {}, records)
            if number is None:
                self.same(mount(pair).tree.shots, ("a", "b", "c", "d", "e", "f"))
                continue
            self.refused(pair, ("deed", number))
        # A seventh shot is refused, too.
        self.refused(foreign_pair(40, (4, 8, 5, 0, (("g", 0),)), {}, [(4, at, (), ("snap", "abcdef"[at - 1])) for at in range(1, 7)]), ("deed", 6))
        # What is not taken is not asked.
        pair = foreign_pair(40, (4, 8, 5, 0, ()), {}, [(4, 5, (3,), ("drop", ("x",))), (3, 6, (), ("drop", ("x",)))])
        self.same([mount(pair).tree.facts], [{}])

    def test_no_room(self):
        # A shelf of 16 blocks, of which the trees take all but some.
        tree = Tree()
        for at in range(15):
            tree = done(tree, at + 1, ("folder", ("abcdefghijklmnop"[at],)))
        root, blocks = dense_tree(rows_of_tree(tree), list(range(6, 22)))
        self.same([len(blocks), len(tree.facts)], [13, 30])
        head = (4, 4, 50, root, ())
        self.assertEqual(mount(foreign_pair(22 + 2, (4, 6, 50, 0, ()), {})).tree, Tree())
        pair = foreign_pair(24, head, blocks)
        volume = mount(pair)
        self.same([volume.tree.facts, volume.turns, found_head(pair)[3]], [tree.facts, 5, root])
        pair = foreign_pair(24, head, blocks, [(4, 50, (), ("folder", ("z",)))])
        before = pair_state(pair)
        self.same(meaning(pair).rows, 32)
        self.refuses(NoRoom, most_blocks(32), lambda: mount(pair))
        self.assertEqual(pair_state(pair), before)
        # A deed without growth is not asked for room, also where there is none.
        pair = foreign_pair(24, head, blocks)
        volume = mount(pair)
        for deed in (("drop", ("a",)), ("order",)):
            volume.do(deed)
        self.same([volume.turns, volume.deeds, meaning(pair) == volume.tree], [5, {50: ("drop", ("a",)), 51: ("order",)}, True])
        # A shot is asked for ahead of the tree.
        pair = foreign_pair(24, head, blocks, [(4, 50, (), ("folder", ("z",))), (4, 51, (50,), ("snap", "s")), (4, 52, (51,), ("drop", ("z",))), (4, 53, (51,), ("drop", ("a",)))])
        self.refuses(NoRoom, most_blocks(32), lambda: mount(pair))


class Copies(Case):
    """Copies that are unlike, with an elder whole block below what is told: it never comes up again."""

    def below(self, pair, at, cells):
        """Puts a whole block with other cells and an elder edition on the first disk; it is not told."""
        told = pair.read_block(at)
        pair.other.write(at, made_block(at, told[1] + 1000, told[2]))
        pair.one.write(at, made_block(at, told[1] + 500, cells))
        pair.flush()
        self.same(pair.read_block(at), ("whole", told[1] + 1000, told[2]))

    def test_elder_blocks_below(self):
        rng = Random(181)
        rows = rows_of_tree(small_tree(MAKE))
        other = rows_of_tree(small_tree(("make", ("x",))))
        for place, cells in ((1, (9, 6, 7, 0, 0)), (0, (8, 6, 7, 0, 0)), (12, leaf(other)), (2, record_parts((3, 2, (), ("drop", ("a",))))[0]),
                             (3, record_parts((4, 3, (), ("make", ("q",))))[0]), (3, record_parts((5, 9, (), ("make", ("q",))))[0])):
            pair = foreign_pair(30, (2, 6, 2, 0, ()), {12: leaf(rows)}, [(3, 2, (), ("make", ("b",))), (2, 1, (), ("make", ("c",)))])
            write_head(pair, (3, 6, 2, 12, ()))
            pair.flush()
            self.below(pair, place, cells)
            tree = meaning(pair)
            self.same(tree.paths(), (("a",), ("b",)))
            volume = mount(pair)
            self.same([volume.tree == tree, volume.turns, pair.unlike(place)], [True, 4, False])
            for _ in range(8):
                for _ in range(3):
                    volume.do(("write", ("a",), 0, (rng.randrange(9),)))
                self.same(sorted(read_log(pair, 6, volume.turns)), sorted(volume.deeds))
                behind = drawn_behind(rng, pair)
                self.same(meaning(behind).paths(), (("a",), ("b",)))
                volume.turn()
                self.assertEqual(meaning(drawn_behind(rng, pair)), volume.tree)

    def test_blocks_of_later_turns(self):
        rng = Random(182)
        for _ in seeds(0, 20):
            pair = fresh_pair(40)
            for at in range(2, 12):
                turn = rng.randrange(1, 9)
                told = rng.choice((record_parts((turn, rng.randrange(1, 5), (), ("make", ("abc"[rng.randrange(3)],))))[0], (turn,), (turn, 3), (turn, 2, 0, 2, 9), ()))
                pair.write_block(at, told)
                if rng.randrange(2):
                    pair.flush()
                    self.below(pair, at, rng.choice(((9, 1), record_parts((6, 2, (), MAKE))[0], ())))
            write_head(pair, (3, 10, 2, 0, ()))
            pair.flush()
            if raised(lambda: meaning(pair)) is not None:
                continue
            tree, before = meaning(pair), [pair.read_block(at) for at in range(40)]
            volume = mount(pair)
            self.assertEqual(volume.tree, tree)
            for at in range(2, 12):
                told = pair.read_block(at)
                is_later = before[at][2] and before[at][2][0] > 3
                self.same([told[2], pair.unlike(at)], [() if is_later else before[at][2], False])
                self.same(told[1] == before[at][1], not is_later)
            for turn in range(4, 9):
                self.same([volume.turns, read_log(pair, 10, turn)], [turn, {}])
                volume.turn()

    def test_torn_blocks_stay(self):
        pair = foreign_pair(30, (3, 6, 2, 0, ()), {})
        torn = ((3, 90, 0, 3), (), (3, 91, 2), ())
        for at in (3, 20):
            pair.one.write(at, torn)
            pair.other.write(at, ((at, 70, 0), (at, 70, 1), (), ()))
        pair.flush()
        mount(pair)
        self.same([pair.one.read(3), pair.one.read(20), pair.read_block(3)], [torn, torn, ("torn",)])
        volume = mount(pair)
        for name in "abcdef":
            volume.do(("folder", (name,)))
        volume.sync()
        self.assertEqual(meaning(pair.behind({}, {})), volume.tree)

    def test_shared_nodes_stay_where_they_are(self):
        tree = small_tree(MAKE, ("folder", ("b",)), ("make", ("b", "c")))
        root, blocks, _ = put_tree(Random(183), tree, range(8, 30))
        pair = foreign_pair(40, (3, 6, 9, root, (("s", root),)), blocks, [(3, 9, (), ("folder", ("z",)))])
        places = reached_places(pair, None)
        volume = mount(pair)
        self.same([reached_places(pair, "s"), volume.tree.shot("s") == tree], [places, True])
        self.assertTrue(set(places) & set(reached_places(pair, None)))
        self.same(found_head(pair)[4], (("s", root),))

    def test_great_turns(self):
        last = 10 ** 18 - 1
        pair = foreign_pair(24, (last - 2, 4, 1, 0, ()), {})
        volume = mount(pair)
        volume.do(MAKE)
        volume.turn()
        self.same([volume.turns, meaning(pair).paths()], [last, (("a",),)])
