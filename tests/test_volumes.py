from random import Random

from helpers import Arg, Case, WrongCase, anything, number, pair_state, raised
from everycut.errors import InvalidDeed, InvalidOperation, Refused, TooMany
from everycut.keep import volumes
from everycut.keep.heads import found_head, write_head
from everycut.keep.log import read_log, record_parts
from everycut.keep.volumes import Volume, made, meaning, mount
from everycut.outside import pairs
from everycut.outside.pairs import fresh_pair
from everycut.plain.deeds import is_deed
from everycut.plain.trees import Tree, done, refusal
from pair_helpers import lose_some, pair_arg
from plain_helpers import deed_arg
from tree_helpers import node_cells
from volume_helpers import (
    Account, drawn_deed, drawn_row, drawn_volume, foreign_pair, full_model, is_refused, most_nodes, seeds, small_tree, state_of_volume,
    told_of)

EXAMPLES = '''
>>> P = fresh_pair(40)
>>> V = made(P, 4)
>>> V.do(("folder", ("a",)))
>>> V.do(("make", ("b",)))
>>> [V.deeds, V.waits, V.synced, V.number, V.turns, str(V)]
[{1: ('folder', ('a',)), 2: ('make', ('b',))}, {1: (), 2: ()}, (), 3, 1, 'turn 1, 2 deeds, 0 synced']
>>> V.sync()
>>> V.do(("make", ("a", "c")))
>>> [V.synced, V.waits[3], meaning(P) == V.tree]
[(1, 2), (1,), True]
>>> W = mount(P.behind({}, {}))
>>> [W.tree.paths(), W.turns, len(W), W.number]
[(('a',), ('b',)), 2, 0, 3]
>>> V.do(("drop", ("c",)))
raises Refused(('gone', ('c',)))
'''

LAST = 10 ** 18 - 1
LONG = ("all", (("write", ("a", "b", "c", "d", "e", "f", "g", "h"), 9, tuple(range(32))),) * 6)


class Making(Case):
    def test_examples(self):
        self.examples(EXAMPLES, {**vars(volumes), **vars(pairs)})

    def test_constants(self):
        self.same([volumes.LEAST_LOG, volumes.MAX_LOG], [4, 40])

    def is_empty(self, volume, turn, log):
        self.same([volume.tree.facts, volume.tree.shots, volume.log, volume.turns, volume.number, volume.deeds, volume.waits, volume.synced],
                  [{}, (), log, turn, 1, {}, {}, ()])
        self.same([len(volume), str(volume), volume.pair.is_flushed], [0, f"turn {turn}, 0 deeds, 0 synced", True])
        self.same([found_head(volume.pair), meaning(volume.pair) == Tree()], [(turn, log, 1, 0, ()), True])
        self.same(read_log(volume.pair, log, turn), {})

    def test_fresh_pairs(self):
        for size, log in ((24, 4), (24, 6), (240, 4), (240, 40), (58, 40), (30, 11)):
            pair = fresh_pair(size)
            volume = made(pair, log)
            self.assertTrue(volume.pair is pair)
            self.is_empty(volume, 1, log)

    def test_sizes(self):
        for size in (24, 25, 30, 57, 58, 59):
            for log in range(4, 41):
                pair = fresh_pair(size)
                if size >= log + 18:
                    made(pair, log)
                else:
                    self.refuses(TooMany, log, lambda: made(pair, log))
                    self.same(pair == fresh_pair(size), True)

    def test_a_head_that_is_found(self):
        rng = Random(140)
        for turn in (1, 2, 7, 10 ** 6, LAST - 4):
            for log in (4, 6):
                pair = fresh_pair(40)
                tree = small_tree(("make", ("a",)), ("folder", ("b",)))
                pair.write_block(20, node_cells(0, [((1, 16), (0,)), ((2, 0, 10460353203), (16,)), ((3, 16), (0,))]))
                write_head(pair, (turn, 5, 9, 20, (("s", 20),)))
                if turn > 3:
                    # An elder head of a lesser turn at the other seat.
                    pair.write_block(1 - turn % 2, (turn - 3, 5, 3, 0, 0))
                pair.flush()
                self.assertEqual(meaning(pair).paths(), (("a",),))
                lose_some(rng, pair, 20, range(40))
                self.is_empty(made(pair, log), turn + 1, log)
                volume = mount(pair.behind({}, {}))
                self.same([volume.tree == Tree(), volume.turns, volume.number], [True, turn + 2, 1])
                for deed in (("make", ("a",)), ("folder", ("b",))):
                    volume.do(deed)
                volume.turn()
                self.same([meaning(volume.pair) == tree, volume.turns], [True, turn + 3])

    def test_unflushed_pairs(self):
        pair = fresh_pair(30)
        elder = made(pair, 5)
        elder.do(("make", ("a",)))
        self.is_empty(made(pair, 4), 2, 4)
        pair.write_block(0, (8, 4, 1, 0, 0))
        self.is_empty(made(pair, 12), 9, 12)

    def test_records_of_any_turn(self):
        # Records and other blocks of elder and of later turns lie where the log is to be.
        rng = Random(141)
        for _ in seeds(0, 30):
            pair = fresh_pair(34)
            for place in rng.sample(range(2, 18), 9):
                turn = rng.choice((0, 1, 2, 3, 4, 5, 6, 9))
                if rng.randrange(3):
                    pair.write_block(place, record_parts((turn or 1, rng.randrange(1, 4), (), ("make", (rng.choice("xyz"),))))[0])
                else:
                    pair.write_block(place, rng.choice(((turn,), (turn, 1), (turn, 2, 1, 1, 1, 20), ())))
                if rng.randrange(3) == 0:
                    pair.flush()
                    pair.one.write(place, tuple((place, pair.last_edition + 1, part) for part in range(4)))
                    pair.flush()
            head = rng.choice((None, 1, 2, 4))
            if head:
                write_head(pair, (head, 5, 3, 0, ()))
            pair.flush()
            before = [pair.read_block(at) for at in range(34)]
            volume = made(pair, rng.choice((4, 9, 16)))
            for at in range(2, 2 + volume.log):
                told = pair.read_block(at)
                if before[at][0] == "whole":
                    self.assertFalse(pair.unlike(at))
                self.assertTrue(told == before[at] or told[0] == "whole" and told[2] == () and before[at][2][0] >= volume.turns)
                self.assertFalse(told[0] == "whole" and told[2] and told[2][0] >= volume.turns)
            tree = Tree()
            for at in range(1, 12):
                self.same(read_log(pair, volume.log, volume.turns), {one: (volume.waits[one], deed) for one, deed in volume.deeds.items()})
                deed = drawn_deed(rng, tree, bars=0)
                if is_refused(lambda: volume.do(deed)) is None:
                    tree = done(tree, volume.number - 1, deed)
                if rng.randrange(3) == 0:
                    volume.turn()
                self.assertEqual(meaning(pair), tree)

    def test_anew_on_another_volume(self):
        rng = Random(142)
        for _ in seeds(0, 10):
            elder, _ = drawn_volume(rng, size=48, many=25)
            turn = elder.turns
            pair = elder.pair if rng.randrange(2) else elder.pair.behind({}, {})
            log = rng.choice((4, 5, 8, 20))
            self.is_empty(made(pair, log), turn + 1, log)
            again = made(pair, 30)
            self.is_empty(again, turn + 2, 30)
            again.do(("make", ("z",)))
            again.sync()
            self.same([mount(pair.behind({}, {})).tree.facts], [again.tree.facts])


class Doing(Case):
    def test_beside_an_account(self):
        rng = Random(143)
        counts = {"turn": 0, "room": 0, "log": 0}
        for _ in seeds(0, 25):
            size, log = rng.choice(((24, 4), (24, 6), (27, 5), (40, 6), (60, 8), (90, 40)))
            volume, account = made(fresh_pair(size), log), Account(size, log)
            model = full_model(Tree())
            for _ in range(45):
                kind = rng.randrange(14)
                turns = volume.turns
                if kind == 0:
                    volume.sync(), account.sync()
                elif kind == 1:
                    volume.turn(), account.turn()
                    turns += 1
                elif kind == 2:
                    row, _ = drawn_row(rng, volume.tree, volume.number, rng.randrange(1, 6))
                    row.append(drawn_deed(rng, volume.tree))
                    reason = account.settle(tuple(row))
                    self.same(is_refused(lambda: volume.settle(tuple(row))), reason)
                    if reason is None:
                        first = account.number - len(row)
                        for at, deed in enumerate(row):
                            model.do(deed, first + at)
                        turns += 1
                else:
                    deed = LONG if rng.randrange(40) == 0 else drawn_deed(rng, volume.tree)
                    plain = model.reason(deed)
                    reason = account.do(deed)
                    self.same(is_refused(lambda: volume.do(deed)), reason)
                    counts["log"] += reason == ("log",)
                    counts["room"] += reason == ("room",)
                    if plain is not None:
                        self.same(reason, plain)
                    if reason is None:
                        model.do(deed, account.number - 1)
                counts["turn"] += volume.turns > turns
                self.same(told_of(volume), account.told())
                self.same(volume.tree.facts, model.facts())
                self.same(volume.tree.shots, tuple(sorted(model.shots)))
                self.same([len(volume), str(volume)], [len(account.doings.deeds), f"turn {account.turns}, {len(account.doings.deeds)} deeds, {len(account.synced)} synced"])
                self.assertEqual(meaning(volume.pair), volume.tree)
                self.same(read_log(volume.pair, volume.log, volume.turns), {one: (volume.waits[one], deed) for one, deed in volume.deeds.items()})
        self.assertGreater(counts["turn"], 50)
        self.assertGreater(counts["room"], 10)

    def test_a_turn_comes_for_the_log(self):
        volume = made(fresh_pair(40), 4)
        for at in range(4):
            volume.do(("make", ("abcd"[at],)))
        self.same([volume.turns, len(volume)], [1, 4])
        volume.do(("make", ("e",)))
        self.same([volume.turns, volume.deeds, volume.waits, volume.synced], [2, {5: ("make", ("e",))}, {5: ()}, ()])
        # A record whose waits make it longer than what is left.
        volume = made(fresh_pair(40), 4)
        for at in range(3):
            volume.do(("make", ("abc"[at],)))
        numbers = ("write", ("a",), 0, (1,) * 32)
        parts = ("all", (numbers, ("cut", ("b",), 0), ("cut", ("c",), 0)))
        self.same([len(record_parts((1, 4, (), parts))), len(record_parts((1, 4, (1, 2, 3), parts)))], [1, 2])
        volume.do(parts)
        self.same([volume.turns, volume.waits], [2, {4: ()}])

    def test_forty_deeds_of_a_turn(self):
        volume = made(fresh_pair(70), 40)
        volume.do(("make", ("a",)))
        for _ in range(39):
            volume.do(("cut", ("a",), 0))
        self.same([volume.turns, len(volume), volume.waits[40]], [1, 40, (1,)])
        volume.do(("order",))
        self.same([volume.turns, len(volume), volume.waits], [2, 1, {41: ()}])
        volume = made(fresh_pair(70), 40)
        for _ in range(39):
            volume.do(("order",))
        volume.do(("order",))
        self.same(volume.waits[40], (39,))
        volume = made(fresh_pair(200), 40)
        for at in range(39):
            volume.do(("make", ("abcdefghijklmnopqrstuvwxyz"[at % 26] * (1 + at // 26),)))
        volume.do(("order",))
        self.same([volume.turns, volume.waits[40], meaning(volume.pair) == volume.tree], [1, tuple(range(1, 40)), True])

    def test_more_blocks_than_the_log(self):
        path = ("a", "b", "c", "d", "e", "f", "g", "h")
        volume = made(fresh_pair(60), 4)
        volume.settle(tuple(("folder", path[:at]) for at in range(1, 8)) + (("make", path),))
        before = state_of_volume(volume)
        self.refuses(Refused, ("log",), lambda: volume.do(LONG))
        self.refuses(Refused, ("all", 0, ("gone", ("x",))), lambda: volume.do(("all", (("drop", ("x",)),) + LONG[1][:5])))
        self.assertEqual(state_of_volume(volume), before)
        self.same(len(record_parts((1, 1, (), ("all", LONG[1][:4])))), 4)
        volume.do(("all", LONG[1][:4]))
        large = made(fresh_pair(60), 6)
        large.settle(tuple(("folder", path[:at]) for at in range(1, 8)) + (("make", path),))
        self.same(len(record_parts((1, 1, (), LONG))), 6)
        large.do(LONG)
        self.same(large.tree.numbers_of(large.tree.node_at(path)), (0,) * 9 + tuple(range(32)))
        # It comes ahead of the lack of room: no turn is written.
        small = made(fresh_pair(24), 4)
        small.settle(tuple(("make", (name,)) for name in "abcd"))
        long = ("all", (("write", ("a",), 0, (1,) * 32),) * 6)
        short = ("all", (("write", ("a",), 0, (1,) * 32),) * 5)
        before = state_of_volume(small)
        self.same([len(record_parts((2, 5, (), long))), len(record_parts((2, 5, (), short)))], [5, 4])
        self.refuses(Refused, ("log",), lambda: small.do(long))
        self.assertEqual(state_of_volume(small), before)
        self.refuses(Refused, ("room",), lambda: small.do(short))
        self.same(small.turns, 3)

    def test_refused_deeds_change_nothing(self):
        rng = Random(144)
        many = 0
        for _ in seeds(0, 8):
            volume, _ = drawn_volume(rng)
            before = state_of_volume(volume)
            for _ in range(30):
                deed = drawn_deed(rng, volume.tree, tries=1)
                if refusal(volume.tree, volume.number, deed) is not None:
                    many += 1
                    self.refuses(Refused, refusal(volume.tree, volume.number, deed), lambda: volume.do(deed))
                    self.refuses(Refused, refusal(volume.tree, volume.number, deed), lambda: volume.settle((deed, ("order",))))
                    self.assertEqual(state_of_volume(volume), before)
        self.assertGreater(many, 40)

    def test_a_seventh_shot(self):
        volume = made(fresh_pair(24), 4)
        for name in "abcdef":
            volume.do(("snap", name))
        before = state_of_volume(volume)
        self.refuses(Refused, ("room",), lambda: volume.do(("snap", "g")))
        self.refuses(Refused, ("room",), lambda: volume.settle((("make", ("a",)), ("snap", "g"))))
        self.refuses(Refused, ("snapshot", "c"), lambda: volume.do(("snap", "c")))
        self.assertEqual(state_of_volume(volume), before)
        volume.do(("unsnap", "c"))
        volume.do(("snap", "g"))
        self.same(volume.tree.shots, ("a", "b", "d", "e", "f", "g"))

    def test_shots(self):
        rng = Random(145)
        for _ in seeds(0, 12):
            volume, _ = drawn_volume(rng, size=70, many=25, bars=8)
            volume.turn()
            self.same([meaning(volume.pair).shot(name).facts for name in volume.tree.shots],
                      [volume.tree.shot(name).facts for name in volume.tree.shots])
            again = mount(volume.pair.behind({}, {}))
            self.same([again.tree == volume.tree, again.turns, again.number], [True, volume.turns + 1, volume.number])
        volume = made(fresh_pair(40), 4)
        volume.do(("make", ("a",)))
        volume.do(("snap", "s"))
        volume.do(("drop", ("a",)))
        volume.turn()
        volume.do(("unsnap", "s"))
        volume.do(("make", ("b",)))
        volume.do(("snap", "s"))
        volume.do(("drop", ("b",)))
        volume.turn()
        self.same([meaning(volume.pair).facts, meaning(volume.pair).shot("s").paths(), volume.turns], [{}, (("b",),), 3])
        volume.do(("back", "s"))
        self.same(mount(volume.pair.copied()).tree.paths(), (("b",),))

    def test_equal_volumes(self):
        one, other = made(fresh_pair(24), 4), made(fresh_pair(24), 4)
        self.same([one == other, one != other, one == one.pair, one == None, made(fresh_pair(25), 4) == one], [True, False, False, False, False])
        one.do(("order",))
        self.same([one == other, one.tree == other.tree], [False, True])
        other.do(("order",))
        self.same([one == other], [True])
        one.sync()
        self.same([one == other], [False])
        other.pair.flush()
        self.same([one == other], [True])
        mounted = mount(one.pair.copied())
        self.same([mounted == one], [False])
        self.assertIsInstance(raised(lambda: iter(one)), TypeError)

    def test_nothing_is_returned_or_shared(self):
        volume = made(fresh_pair(24), 4)
        self.same([volume.do(("make", ("a",))), volume.sync(), volume.turn(), volume.settle((("order",),))], [None] * 4)
        volume.do(("make", ("b",)))
        volume.deeds.clear()
        volume.waits.clear()
        volume.tree.facts.clear()
        self.same([volume.deeds, volume.waits, len(volume.tree)], [{3: ("make", ("b",))}, {3: ()}, 3])


class Wrong(WrongCase):
    def test_making(self):
        pair = fresh_pair(60)
        self.wrong_calls(made, [pair_arg(pair), number(5, 4, 40)], lambda: pair_state(pair))
        small = fresh_pair(24)
        self.wrong_calls(made, [pair_arg(small), number(5, 4, 40)], lambda: pair_state(small))

    def test_pairs(self):
        volume = made(fresh_pair(24), 4)
        state = lambda: pair_state(volume.pair)
        self.wrong_calls(mount, [pair_arg(volume.pair)], state)
        self.wrong_calls(meaning, [pair_arg(volume.pair)], state)

    def test_deeds(self):
        volume, _ = drawn_volume(Random(146))
        state = lambda: state_of_volume(volume)
        self.wrong_calls(volume.do, [deed_arg(("order",))], state)
        wrong = [(("order",),) * 41, [("order",)], ("order",), (("order",), None), (None, ("order",)), {("order",): 1}, (["order"],), (("all", ()),),
                 (("make", ("a",)),) * 40 + (("order",),), (("make", ()),)]
        self.wrong_calls(volume.settle, [Arg((("order",),), lambda value: False, InvalidDeed, wrong)], state)
        for value in anything():
            if not is_deed(value):
                # A deed that is refused stands ahead of one that is none.
                self.refuses(InvalidDeed, None, lambda: volume.settle((("drop", ("nothing",)), value)))

    def test_other_values_are_no_volumes(self):
        volume = made(fresh_pair(24), 4)
        for value in anything():
            self.same([volume == value, volume != value], [False, True])
        self.assertIsInstance(volume, Volume)
        self.refuses(InvalidOperation, None, lambda: volume.tree_of((1,)))
        self.assertEqual(most_nodes(15), 8)
