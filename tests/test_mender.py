from random import Random

from helpers import Case, WrongCase, anything, pair_state
from everycut.errors import InvalidDisk, InvalidOperation, NoRoom, Refused, Stopped
from everycut.keep import volumes
from everycut.keep.heads import found_head
from everycut.keep.log import record_parts
from everycut.keep.shots import reached_places, shot_names, shot_rows
from everycut.keep.volumes import made, meaning, mount
from everycut.mend import facts as facts_module
from everycut.mend import mender
from everycut.mend.facts import mended_facts
from everycut.mend.mender import faults, is_sound, mend, mended, uses
from everycut.outside import pairs
from everycut.outside.blocks import made_block
from everycut.outside.pairs import fresh_pair
from everycut.plain.coding import facts_of_rows, rows_of_tree
from everycut.plain.trees import done
from everycut.rows.trees import most_blocks
from mend_helpers import (
    foreign_tree_pair, shelf_of, slow_faults, slow_mended_tree, slow_needed, slow_told, slow_uses, spoilt_pair)
from pair_helpers import lose_some, pair_arg
from tree_helpers import node_cells, told_node
from volume_helpers import dense_tree, drawn_behind, drawn_volume, foreign_pair, seeds, small_tree, steps_taken

EXAMPLES = '''
>>> SOME = {("kind", 16): "folder", ("name", 0, "a"): 16, ("kind", 32): "file", ("piece", 32, 0): (1, 0, 2, 0, 0, 0, 0, 0), ("name", 0, "b"): 48}
>>> mended_facts(SOME)
{('kind', 16): 'folder', ('kind', 32): 'file', ('name', 0, 'a'): 16, ('name', 0, 'losta'): 32, ('piece', 32, 0): (1, 0, 2, 0, 0, 0, 0, 0), ('size', 32): 3}
>>> V = made(fresh_pair(40), 4)
>>> V.do(("folder", ("a",)))
>>> V.sync()
>>> P = V.pair.copied()
>>> [faults(P), uses(P)[:8], mend(P), is_sound(P)]
[(), ('head', 'head', 'log', 'log', 'log', 'log', 'free', 'free'), (), True]
>>> P.lose_on(1, 2, 0)
>>> [faults(P), meaning(P) == V.tree, mend(P), mend(P), meaning(P) == V.tree]
[(('copies', 2),), True, (('copies', 2),), (), True]
'''


def of_leaves(size, log, rows, number=50, records=(), shots=(), first=None):
    """A pair with a tree of two leaves and a top node at the first places of the shelf, with further blocks."""
    place = 2 + log if first is None else first
    blocks = {place: node_cells(1, [(rows[0][0], place + 1), (rows[3][0], place + 2)]), place + 1: node_cells(0, rows[:3]), place + 2: node_cells(0, rows[3:])}
    return foreign_pair(size, (5, log, number, place, shots), blocks, records), place


ROWS = rows_of_tree(small_tree(("folder", ("a",)), ("make", ("b",))))


class Looking(Case):
    def test_examples(self):
        self.examples(EXAMPLES, {**vars(mender), **vars(facts_module), **vars(volumes), **vars(pairs)})

    def test_volumes(self):
        rng = Random(220)
        many = {}
        for _ in seeds(0, 30):
            volume, _ = drawn_volume(rng, size=rng.choice((30, 60)), log=5, many=20, bars=5)
            pair = drawn_behind(rng, volume.pair, rng.choice((0, 5, 200)))
            state = pair_state(pair)
            found = faults(pair)
            self.same([found, uses(pair), is_sound(pair)], [slow_faults(pair), slow_uses(pair), found == ()])
            # Behind each cut there are no faults but those of copies, just at needed places.
            needed = slow_needed(pair, found_head(pair))
            self.same(found, tuple(("copies", at) for at in sorted(needed) if pair.unlike(at)))
            self.assertEqual(pair_state(pair), state)
            for use in uses(pair):
                many[use] = True
            tree = meaning(pair)
            self.same([mend(pair), is_sound(pair), mend(pair), meaning(pair) == tree], [found, True, (), True])
        self.same(sorted(many), ["free", "head", "log", "rows"])

    def test_spoilt_ones(self):
        rng = Random(221)
        words = {}
        for _ in seeds(0, 60):
            pair = spoilt_pair(rng)
            state = pair_state(pair)
            self.same([faults(pair), uses(pair), is_sound(pair)], [slow_faults(pair), slow_uses(pair), slow_faults(pair) == ()])
            for fault in faults(pair):
                words[fault[0]] = True
            self.assertEqual(pair_state(pair), state)
        self.same(sorted(words), ["cells", "copies", "few", "key", "level", "lost", "rows"])

    def test_the_sequence_of_faults(self):
        # A lost leaf, one that is reached by two shots, rows that are no tree under the root and one shot, unlike copies.
        blocks = {12: node_cells(1, [(ROWS[0][0], 13), (ROWS[3][0], 14)]), 13: node_cells(0, ROWS[:3]),
                  15: node_cells(1, [((1, 5), 16), (ROWS[0][0], 13)]), 16: (4,), 17: node_cells(0, ROWS[:1]), 18: node_cells(2, [(ROWS[0][0], 12)])}
        pair = foreign_pair(30, (5, 6, 9, 12, (("a", 15), ("b", 17), ("c", 15), ("d", 0), ("e", 18))), blocks)
        pair.lose_on(1, 13, 2)
        pair.lose_on(0, 1, 0)
        pair.lose_on(0, 20, 0)
        self.same(faults(pair), slow_faults(pair))
        self.same(faults(pair), (("copies", 1), ("copies", 13), ("few", 12), ("lost", 14), ("cells", 16), ("few", 18), ("rows", "", ("kind", 32)), ("rows", "a", ("kind", 32)),
                                 ("rows", "b", ("kind", 16)), ("rows", "c", ("kind", 32)), ("rows", "e", ("kind", 32))))
        self.same(uses(pair)[8:20], ("free",) * 4 + ("rows", "rows", "free", "rows", "free", "rows", "rows", "free"))

    def test_shared_nodes(self):
        # One lost node under several roots is told once; under each of them rows can lack.
        pair, place = of_leaves(30, 6, ROWS, shots=(("s", 8), ("t", 0)))
        self.same([faults(pair), uses(pair)[8:12]], [(), ("rows", "rows", "rows", "free")])
        pair.write_block(place + 2, (7,))
        pair.flush()
        self.same(faults(pair), (("cells", 10), ("rows", "", ("kind", 32)), ("rows", "s", ("kind", 32))))
        self.same(uses(pair)[8:12], ("rows", "rows", "free", "free"))
        # A node that is told where its level is wrong, with what hangs below it left out.
        blocks = {8: node_cells(2, [((1, 16), 9), ((5,), 10)]), 9: node_cells(1, [((1, 16), 11), ((2,), 12)]), 10: node_cells(2, [((5,), 13), ((6,), 14)]), 13: (1,)}
        pair = foreign_pair(30, (5, 6, 9, 8, (("s", 10),)), blocks)
        self.same(faults(pair), slow_faults(pair))
        self.same(faults(pair), (("few", 9), ("level", 10), ("lost", 11), ("lost", 12), ("cells", 13), ("lost", 14)))

    def test_records(self):
        # Needed are blocks with parts of whole records, taken or not, and no others of the log.
        long = ("all", tuple(("write", ("a",), 0, (1,) * 32) for _ in range(2)))
        records = [(5, 50, (), ("make", ("a",))), (5, 51, (40,), long), (4, 52, (), ("make", ("b",))), (5, 53, (), ("make", ("c",)))]
        pair = foreign_pair(40, (5, 10, 50, 0, ()), {11: record_parts((5, 60, (), long))[0], 10: (5,), 9: (5, 53, 0, 1, 9), 8: ()}, records)
        for at in range(40):
            if pair.is_borne(0, at, 3):
                pair.lose_on(0, at, 3)
        self.same([faults(pair), slow_faults(pair)], [(("copies", 1), ("copies", 2), ("copies", 3), ("copies", 4))] * 2)

    def test_elder_records_of_one_number(self):
        # What an elder turn put with the number of a whole record is not needed.
        pair = foreign_pair(40, (5, 6, 50, 0, ()), {}, [(5, 50, (), ("make", ("a",))), (4, 50, (), ("make", ("b",)))])
        pair.lose_on(1, 3, 0)
        self.same([pair.unlike(3), faults(pair)], [True, ()])
        pair.lose_on(1, 2, 0)
        self.same([faults(pair), slow_faults(pair)], [(("copies", 2),)] * 2)

    def test_not_true(self):
        # A pair with unlike copies is not sound; it can mean what it meant.
        volume = made(fresh_pair(24), 4)
        volume.pair.lose_on(0, 1, 1)
        self.same([is_sound(volume.pair), meaning(volume.pair) == volume.tree, mend(volume.pair)], [False, True, (("copies", 1),)])


class Mending(Case):
    def test_copies_alone(self):
        rng = Random(222)
        for _ in seeds(0, 25):
            volume, _ = drawn_volume(rng, size=40, log=5, many=20, bars=5)
            pair = drawn_behind(rng, volume.pair, rng.choice((0, 3, 60, 300)))
            found, tree = faults(pair), meaning(pair)
            before = [(pair.one.read(at), pair.other.read(at)) for at in range(40)]
            blocks = {fault[1]: pair.read_block(fault[1]) for fault in found}
            whole = {at: made_block(at, told[1], told[2]) for at, told in blocks.items()}
            wanted = [(which, at) for at in whole for which in (0, 1) if before[at][which] != whole[at]]
            steps = steps_taken(pair, lambda: self.same(mend(pair), found))
            self.same(steps, wanted + [(0,), (1,)] if found else [])
            for at in range(40):
                self.same((pair.one.read(at), pair.other.read(at)), (whole[at],) * 2 if at in whole else before[at])
            self.same([pair.is_flushed, meaning(pair) == tree, steps_taken(pair, lambda: mend(pair))], [True, True, []])

    def test_spoilt_ones(self):
        rng = Random(223)
        written = 0
        for _ in seeds(0, 45):
            pair = spoilt_pair(rng)
            head, found, tree, told, needed = found_head(pair), faults(pair), slow_mended_tree(pair), slow_told(pair, found_head(pair)), slow_needed(pair, found_head(pair))
            twin, state = pair.copied(), pair_state(pair)
            got = mended(pair)
            self.assertEqual(pair_state(pair), state)
            self.same([mend(pair), got == pair, is_sound(pair), pair.is_flushed], [found, True, True, True])
            self.assertEqual(meaning(pair), tree)
            self.same([meaning(pair).shot(name).facts for name in tree.shots], [tree.shot(name).facts for name in tree.shots])
            again = pair_state(pair)
            self.same([mend(pair), pair_state(pair) == again], [(), True])
            if all(fault[0] == "copies" for fault in found):
                self.same(found_head(pair), head)
                continue
            written += 1
            self.same([found_head(pair)[0], found_head(pair)[1]], [head[0] + 1, head[1]])
            self.assertGreaterEqual(found_head(pair)[2], head[2])
            # Places that a node tells are written with no other cells, taken or not; nor is what stays of the log.
            for at in range(pair.size):
                if at in told and at >= 2 + head[1] or at in needed:
                    self.same(pair.read_block(at), twin.read_block(at))
            for name in shot_names(twin):
                # Shots without faults stay where they are.
                if name in shot_names(pair) and is_sound_root(twin, name) and rows_of_tree(tree.shot(name)) == shot_rows(twin, name):
                    self.same([reached_places(pair, name), shot_rows(pair, name)], [reached_places(twin, name), shot_rows(twin, name)])
            volume = mount(pair)
            self.assertEqual(volume.tree, tree)
        self.assertGreater(written, 20)

    def test_deeds_of_the_log(self):
        # Refused ones, and those that would make a node that is there, are left out; all others are done.
        records = [(5, 50, (), ("drop", ("zz",))), (5, 51, (50,), ("make", ("c",))), (5, 1, (), ("make", ("x",))), (5, 52, (), ("all", (("folder", ("d",)), ("make", ("d", "e"))))),
                   (5, 2, (), ("all", (("cut", ("b",), 0), ("folder", ("y",))))), (5, 53, (52,), ("snap", "s")), (5, 54, (53,), ("drop", ("c",))), (5, 60, (59,), ("drop", ("b",)))]
        pair, place = of_leaves(60, 12, ROWS, records=records)
        pair.write_block(place + 2, (7,))
        pair.flush()
        # What is left: the kinds of 16 and 32, and the entry of 16. The file 32 is lifted; the node 33 of the deed 2 is not there, the path b neither.
        wanted = mended_facts(facts_of_rows(ROWS[:3])[0])
        self.same(wanted[("name", 0, "losta")], 32)
        self.same(mend(pair), (("cells", place + 2), ("rows", "", ("kind", 32))))
        tree = meaning(pair)
        self.same([tree.paths(), tree.shots, found_head(pair)[2]], [(("a",), ("d",), ("d", "e"), ("losta",)), ("s",), 55])
        self.same(tree.shot("s").paths(), (("a",), ("c",), ("d",), ("d", "e"), ("losta",)))
        # A deed of which just a later part would make a node that is there.
        rows = rows_of_tree(small_tree(("all", (("folder", ("a",)), ("make", ("b",))))))
        for number, is_done in ((50, True), (3, True), (1, False)):
            deed = ("all", (("move", ("a",), ("m",)), ("make", ("q",))))
            pair, place = of_leaves(60, 12, rows, records=[(5, number, (), deed)])
            pair.write_block(place + 2, (7,))
            pair.flush()
            self.assertEqual(slow_mended_tree(pair).paths(), (("losta",), ("m",), ("q",)) if is_done else (("a",), ("losta",)))
            mend(pair)
            self.assertEqual(meaning(pair).paths(), (("losta",), ("m",), ("q",)) if is_done else (("a",), ("losta",)))

    def test_rows_of_no_form(self):
        rows = (((1, 16), (1,)), ((2, 0, 10460353203), (16,)), ((7,), (1,)), ((9, 9), (2,)))
        pair, place = of_leaves(40, 6, rows)
        self.same(faults(pair), (("few", place + 2), ("rows", "", ("row", (7,)))))
        self.same(len(mend(pair)), 2)
        self.same(meaning(pair).facts, {("kind", 16): "folder", ("name", 0, "a"): 16})

    def test_blocks_of_the_log(self):
        # Ahead of a turn whole blocks that are unlike are mended, those of later turns written without cells.
        rows = ROWS[:3] + ROWS[4:]
        pair, place = of_leaves(40, 9, rows, records=[(5, 50, (), ("make", ("q",))), (6, 50, (), ("make", ("r",))), (4, 3, (), ("make", ("s",))), (9, 1, (), ("order",)), (2, 1, (), ("order",))])
        for at in (2, 4, 5):
            told = pair.read_block(at)
            pair.other.write(at, made_block(at, told[1] + 900, told[2]))
            pair.one.write(at, made_block(at, told[1] + 500, record_parts((6, 51, (), ("make", ("t",))))[0]))
        pair.flush()
        self.same(faults(pair), (("copies", 2), ("few", place + 2), ("rows", "", ("kind", 32))))
        mend(pair)
        self.same([pair.unlike(at) for at in range(2, 7)], [False] * 5)
        self.same([pair.read_block(at)[2][:2] for at in range(2, 7)], [(5, 50), (), (4, 3), (), (2, 1)])
        self.same([meaning(pair).paths(), found_head(pair)[0]], [(("a",), ("losta",), ("q",)), 6])
        # With no other faults than copies they stay as they are.
        pair, place = of_leaves(40, 9, ROWS, records=[(6, 50, (), ("make", ("r",)))])
        pair.lose_on(0, 2, 0)
        pair.lose_on(0, place, 0)
        self.same([mend(pair), pair.unlike(2), pair.read_block(2)[2][0], found_head(pair)[0]], [(("copies", place),), True, 6, 5])

    def test_a_root_that_is_lost(self):
        # The place that the head tells is not written: the elder head could find another node there.
        pair, place = of_leaves(40, 6, ROWS, records=[(5, 50, (), ("make", ("q",)))])
        pair.write_block(place, (7,))
        pair.flush()
        told = pair.read_block(place)
        self.same(mend(pair), (("cells", place),))
        self.same([meaning(pair).paths(), pair.read_block(place)], [(("q",),), told])

    def test_nodes_in_a_ring(self):
        # Nodes that tell themselves and one another: all of them are told, none is written.
        first = ROWS[0][0]
        blocks = {8: node_cells(2, [(first, 9), ((5,), 8)]), 9: node_cells(1, [(first, 10), ((3,), 12)]), 10: node_cells(0, ROWS[:2]), 12: node_cells(3, [((3,), 13), ((4,), 8)]),
                  13: node_cells(1, [((3,), 14), ((4,), 12)])}
        pair = foreign_pair(30, (5, 6, 50, 8, ()), blocks)
        self.same([faults(pair), slow_told(pair, found_head(pair))], [slow_faults(pair), {8, 9, 10, 12, 13, 14}])
        told = [pair.read_block(at) for at in (8, 9, 10, 12, 13, 14)]
        wanted = slow_mended_tree(pair)
        mend(pair)
        self.same([pair.read_block(at) for at in (8, 9, 10, 12, 13, 14)], told)
        self.same([is_sound(pair), meaning(pair) == wanted, found_head(pair)[3] in (8, 9, 10, 12, 13, 14)], [True, True, False])

    def test_sound_mended_and_equal_rows(self):
        # A shot that shares the rows of the tree: what is mended is written once.
        pair, place = of_leaves(40, 6, ROWS, shots=(("s", 8), ("t", 8)))
        pair.write_block(place + 2, (7,))
        pair.flush()
        mend(pair)
        self.same([reached_places(pair, "s") == reached_places(pair, "t"), meaning(pair).shot("s").facts], [True, meaning(pair).facts])
        self.same(len(found_head(pair)[4]), 2)


def is_sound_root(pair, name):
    try:
        shot_rows(pair, name)
    except Refused:
        return False
    return all(fault[:2] != ("rows", name) for fault in faults(pair))


class Room(Case):
    def test_at_the_bound(self):
        rows = rows_of_tree(small_tree(("make", ("a",))))
        records = [(5, 50 + at, (), ("folder", (("bcdefgh"[at]),))) for at in range(4)]
        for many in range(0, 5):
            for free in range(0, 9):
                # The tree has the three rows of a file and lacks a leaf; deeds of the log add two rows each.
                tree = small_tree(("make", ("a",)))
                for at in range(many):
                    tree = done(tree, 50 + at, records[at][3])
                most = most_blocks(len(tree.facts))
                blocks = {6: node_cells(1, [(rows[0][0], 7), ((8,), 8)]), 7: node_cells(0, rows)}
                # A shot of a dense tree holds all other places but the free ones.
                left = list(range(9, 24 - free))
                shot = self.dense_shot(left)
                pair = foreign_pair(24, (5, 4, 50, 6, (("s", shot[0]),)), {**blocks, **shot[1]}, records[:many])
                self.same([faults(pair), len([at for at in range(6, 24) if at not in slow_told(pair, found_head(pair))])], [(("lost", 8),), free + len(left) - len(shot[1])])
                room = free + len(left) - len(shot[1])
                state, wanted = pair_state(pair), slow_mended_tree(pair)
                if room < most:
                    self.refuses(NoRoom, most, lambda: mend(pair))
                    self.refuses(NoRoom, most, lambda: mended(pair))
                    self.assertEqual(pair_state(pair), state)
                    self.same(faults(pair), (("lost", 8),))
                else:
                    self.same(mend(pair), (("lost", 8),))
                    self.assertEqual(meaning(pair), wanted)
                    self.same([is_sound(pair), wanted.facts == tree.facts], [True, True])

    def test_values_of_rows_are_no_places(self):
        # The entry of the node 16 tells no block: the place 16, the last one that is free, is written.
        rows = rows_of_tree(small_tree(("make", ("a",))))
        self.same([rows[1], most_blocks(3)], [((2, 0, 27 ** 7), (16,)), 1])
        large = rows_of_tree(small_tree(*[("folder", (name,)) for name in "abcdefghijklmnop"]))
        root, blocks = dense_tree(large, [at for at in range(9, 24) if at != 16])
        self.same(len(blocks), 14)
        blocks = {**blocks, 6: node_cells(1, [(rows[0][0], 7), ((8,), 8)]), 7: node_cells(0, rows)}
        pair = foreign_pair(24, (5, 4, 50, 6, (("s", root),)), blocks)
        self.same([mend(pair), reached_places(pair, None), is_sound(pair)], [(("lost", 8),), (16,), True])

    def dense_shot(self, places):
        """A tree of folders that takes just about so many places, and is sound."""
        many = len(places)
        while True:
            tree = small_tree(*[("folder", (chr(97 + at // 26) + chr(97 + at % 26),)) for at in range(many)])
            rows = rows_of_tree(tree)
            root, blocks = dense_tree(rows, list(range(9, 200)))
            if len(blocks) <= len(places):
                return root, blocks
            many -= 1

    def test_the_shots_come_first(self):
        # A shot that lacks a leaf needs one place, the tree, that is written behind it, more.
        rows = rows_of_tree(small_tree(("make", ("a",))))
        large = rows_of_tree(small_tree(*[("folder", (name,)) for name in "abcdefghij"]))
        self.same([most_blocks(3), most_blocks(20), len(large)], [1, 13, 20])
        root, blocks = dense_tree(large, list(range(9, 24)))
        broken = dict(blocks)
        lost = [at for at in blocks if told_node(blocks[at])[0] == 0][-1]
        del broken[lost]
        shot = {6: node_cells(1, [(rows[0][0], 7), ((8,), 8)]), 7: node_cells(0, rows)}
        pair = foreign_pair(24, (5, 4, 50, root, (("s", 6),)), {**broken, **shot})
        kept = mended_facts(facts_of_rows(tuple(row for row in large if row not in told_node(blocks[lost])[1]))[0])
        free = [at for at in range(6, 24) if at not in slow_told(pair, found_head(pair))]
        self.assertTrue(1 <= len(free) < most_blocks(len(kept)))
        self.refuses(NoRoom, most_blocks(len(kept)), lambda: mend(pair))
        # With the roots the other way round the great one is asked for first, too.
        pair = foreign_pair(24, (5, 4, 50, 6, (("s", root),)), {**broken, **shot})
        self.refuses(NoRoom, most_blocks(len(kept)), lambda: mend(pair))

    def test_meaning_behind_a_lack_of_room(self):
        rows = rows_of_tree(small_tree(("make", ("a",))))
        blocks = {6: node_cells(1, [(rows[0][0], 7), ((8,), 8)]), 7: node_cells(0, rows)}
        shot = self.dense_shot(list(range(9, 24)))
        pair = foreign_pair(24, (5, 4, 50, 6, (("s", shot[0]),)), {**blocks, **shot[1]}, [(5, 50, (), ("make", ("b",)))] * 1 + [(5, 51, (), ("make", ("c",)))])
        lose_some(Random(224), pair, 60, range(24))
        found, wanted = faults(pair), slow_mended_tree(pair)
        self.same(sorted(set(fault[0] for fault in found)), ["copies", "lost"])
        self.refuses(NoRoom, most_blocks(9), lambda: mend(pair))
        self.assertEqual(slow_mended_tree(pair), wanted)


class Cuts(Case):
    def test_cut_anywhere(self):
        rng = Random(225)
        again = 0
        for seed in seeds(0, 12):
            pair = spoilt_pair(rng)
            wanted = slow_mended_tree(pair)
            for many in range(400):
                stopped = pair.copied()
                stopped.stop_after(many)
                try:
                    mend(stopped)
                    break
                except Stopped:
                    stopped.stop_after(None)
                behind = drawn_behind(rng, stopped, 6)
                for _ in range(rng.randrange(3)):
                    behind.stop_after(rng.randrange(12))
                    try:
                        mend(behind)
                    except Stopped:
                        again += 1
                    behind.stop_after(None)
                    behind = drawn_behind(rng, behind, 6)
                mend(behind)
                self.same(is_sound(behind), True)
                self.assertEqual(meaning(behind), wanted)
        self.assertGreater(again, 60)

    def test_foreign_trees_cut(self):
        rng = Random(226)
        for _ in seeds(0, 8):
            pair, tree = foreign_tree_pair(rng)
            head = found_head(pair)
            if not tree.facts:
                continue
            leaves = [at for at, cells in shelf_of(pair, head).items() if told_node(cells)[0] == 0]
            pair.write_block(rng.choice(leaves), ())
            pair.flush()
            wanted = slow_mended_tree(pair)
            for many in range(0, 60, 3):
                stopped = pair.copied()
                stopped.stop_after(many)
                try:
                    mend(stopped)
                except Stopped:
                    pass
                stopped.stop_after(None)
                behind = drawn_behind(rng, stopped, 10)
                mend(behind)
                self.assertEqual(meaning(behind), wanted)

    def test_no_other_faults_amid_calls(self):
        rng = Random(227)
        for seed in seeds(0, 6):
            for many in range(0, 60, 4):
                volume, _ = drawn_volume(Random(seed), size=40, log=5, many=15, bars=5)
                volume.pair.stop_after(many)
                try:
                    for _ in range(3):
                        volume.do(("snap", "q") if "q" not in volume.tree.shots and len(volume.tree.shots) < 6 else ("order",))
                        volume.turn()
                except (Stopped, Refused):
                    pass
                volume.pair.stop_after(None)
                behind = drawn_behind(rng, volume.pair)
                tree = meaning(behind)
                found = faults(behind)
                self.assertTrue(all(fault[0] == "copies" for fault in found))
                self.same([mend(behind) == found, meaning(behind) == tree, is_sound(behind), mount(behind).tree == tree], [True] * 4)


class Wrong(WrongCase):
    def test_wrong_arguments(self):
        volume, _ = drawn_volume(Random(228), size=40)
        volume.turn()
        state = lambda: pair_state(volume.pair)
        for function in (uses, faults, is_sound, mend, mended):
            self.wrong_calls(function, [pair_arg(volume.pair)], state)
            for value in anything() + [volume]:
                if not isinstance(value, type(volume.pair)):
                    self.refuses(InvalidDisk, None, lambda: function(value))

    def test_sequence(self):
        for function in (uses, faults, is_sound, mend, mended):
            pair = fresh_pair(24)
            self.refuses(Refused, ("head",), lambda: function(pair))
            pair.write_block(9, ())
            self.refuses(InvalidOperation, None, lambda: function(pair))
            volume = made(fresh_pair(24), 4)
            volume.do(("order",))
            state = pair_state(volume.pair)
            self.refuses(InvalidOperation, None, lambda: function(volume.pair))
            self.assertEqual(pair_state(volume.pair), state)
