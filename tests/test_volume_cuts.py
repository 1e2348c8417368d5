"""What can come behind cuts and losses [0.19], and that nothing is touched [0.20]."""

from itertools import product
from random import Random

from helpers import Case, pair_state, raised
from everycut.errors import Stopped
from everycut.keep.heads import found_head, heads_that_can_come
from everycut.keep.log import read_log
from everycut.keep.lots import lots_that_can_come
from everycut.keep.shots import reached_places, shot_names, shot_rows
from everycut.keep.volumes import made, meaning, mount
from everycut.mend.mender import faults
from everycut.outside.disks import cuts
from everycut.outside.pairs import fresh_pair
from everycut.plain.coding import rows_of_tree
from everycut.plain.trees import Tree, done, refusal
from everycut.plain.waits import Doings, lower_lots
from pair_helpers import lose_some
from volume_helpers import (
    drawn_behind, drawn_deed, drawn_row, drawn_volume, is_refused, lots_of, seeds, steps_of, steps_taken)


class Cuts(Case):
    def test_all_cuts_of_small_volumes(self):
        # Of the deeds that are not synced each has one block: all cuts of one disk, beside some of the other one.
        for deeds, synced in (((("make", ("a",)), ("folder", ("b",))), 0), ((("folder", ("a",)), ("make", ("a", "b"))), 0),
                              ((("make", ("a",)), ("folder", ("b",)), ("make", ("b", "c"))), 1),
                              ((("make", ("a",)), ("snap", "s"), ("drop", ("a",))), 1)):
            volume = made(fresh_pair(24), 4)
            for at, deed in enumerate(deeds):
                if at == synced and at:
                    volume.sync()
                volume.do(deed)
            lots = lots_of(volume, Tree())
            self.same(lots_that_can_come(volume), tuple(sorted(lots)))
            pair, seen = volume.pair, {}
            other = {sector: 0 for sector in pair.other.rows}
            for one in cuts(pair.one):
                for second in ({}, {sector: 0 for sector in other if sector[1] % 2}, {sector: 0 for sector in other if sector[0] == 3}):
                    tree = meaning(pair.behind(one, second))
                    fitting = [lot for lot in lots if lots[lot] == tree]
                    self.same(len(fitting), 1)
                    seen[fitting[0]] = True
            self.same(sorted(seen), sorted(lots))

    def test_both_disks_at_once(self):
        volume = made(fresh_pair(24), 4)
        volume.do(("make", ("a",)))
        seen = {True: 0, False: 0}
        for some in product((0, 1), repeat=8):
            cut = [{(2, part): 0 for part in range(4) if some[4 * which + part]} for which in (0, 1)]
            tree = meaning(volume.pair.behind(cut[0], cut[1]))
            is_there = all(some[part] or some[4 + part] for part in range(4))
            self.same(tree == (volume.tree if is_there else Tree()), True)
            seen[is_there] += 1
        self.same(seen, {True: 81, False: 175})

    def test_drawn_cuts(self):
        rng = Random(160)
        lacking, whole = 0, 0
        for _ in seeds(0, 40):
            volume, account = drawn_volume(rng, many=rng.randrange(1, 20))
            lots = lots_of(volume, account.doings.start)
            for _ in range(6):
                behind = drawn_behind(rng, volume.pair)
                tree = meaning(behind)
                self.assertTrue(any(tree == there for there in lots.values()))
                lacking += tree != volume.tree
                whole += tree == volume.tree
                # Not true [0.22]: both disks have equal pictures, or what was not synced is lost.
                again = mount(behind)
                self.same([again.tree == tree, again.turns, again.synced, len(again)], [True, volume.turns + 1, (), 0])
        self.assertGreater(lacking, 40)
        self.assertGreater(whole, 20)

    def test_again_and_again(self):
        # Cut while it is mounted, and cut again, at any step: what was found first stays.
        rng = Random(161)
        stopped = 0
        for _ in seeds(0, 25):
            volume, account = drawn_volume(rng, many=rng.randrange(1, 20), bars=4)
            lots = lots_of(volume, account.doings.start)
            pair = drawn_behind(rng, volume.pair)
            tree = meaning(pair)
            self.assertTrue(any(tree == there for there in lots.values()))
            for _ in range(rng.randrange(6)):
                pair.stop_after(rng.randrange(14))
                try:
                    mount(pair)
                except Exception as error:
                    self.same(type(error).__name__, "Stopped")
                    stopped += 1
                pair.stop_after(None)
                self.assertEqual(meaning(pair), tree)
                pair = drawn_behind(rng, pair)
                self.assertEqual(meaning(pair), tree)
            self.assertEqual(mount(pair).tree, tree)
        self.assertGreater(stopped, 20)

    def amid(self, seed, call, behind, bars=3):
        """Stops a call behind each number of steps: what can come ahead of it, or behind it, comes.

        The function behind adds the trees that can come because of the call.
        """
        rng, kept = Random(seed), {}

        def build():
            volume, account = drawn_volume(Random(seed), many=6 + seed % 9, bars=bars)
            kept.update(volume=volume, start=account.doings.start, lots=lots_of(volume, account.doings.start), tree=volume.tree, number=volume.number)
            return volume.pair

        many = 0
        for many, pair, _ in steps_of(build, lambda pair: call(kept["volume"]) or 1):
            allowed = list(kept["lots"].values()) + behind(kept)
            for _ in range(4):
                twin = drawn_behind(rng, pair)
                tree = meaning(twin)
                self.assertTrue(any(tree == there for there in allowed))
                self.assertTrue(all(fault[0] == "copies" for fault in faults(twin)))
                self.assertEqual(mount(twin).tree, tree)
        return many

    def test_amid_calls(self):
        most = {}
        for seed in seeds(0, 6):
            volume, _ = drawn_volume(Random(seed), many=6 + seed % 9, bars=3)
            deed = next(one for one in (drawn_deed(Random(at), volume.tree) for at in range(99)) if refusal(volume.tree, volume.number, one) is None)
            row = tuple(drawn_row(Random(seed), volume.tree, volume.number, 5, bars=4)[0]) or (("order",),)

            def behind_do(kept):
                doings = Doings(kept["start"])
                for number, there in sorted({**self.deeds, volume.number: deed}.items()):
                    doings.add(number, there)
                return [doings.tree_of(lot) for lot in lower_lots(doings.waits) if set(self.synced) <= set(lot)]

            def behind_settle(kept):
                tree = kept["tree"]
                for at, there in enumerate(row):
                    tree = done(tree, volume.number + at, there)
                return [tree]

            self.deeds, self.synced = volume.deeds, volume.synced
            for word, call, behind in (("do", lambda one: is_refused(lambda: one.do(deed)), behind_do),
                                       ("settle", lambda one: is_refused(lambda: one.settle(row)), behind_settle),
                                       ("sync", lambda one: one.sync(), lambda kept: []), ("turn", lambda one: one.turn(), lambda kept: []),
                                       ("mount", lambda one: mount(one.pair) and None, lambda kept: [])):
                most[word] = max(most.get(word, 0), self.amid(seed, call, behind))
        self.same(most["sync"], 2)
        self.assertGreater(min(most["turn"], most["settle"], most["mount"]), 8)

    def test_amid_made(self):
        # Behind a cut within the call nothing is told; behind the call it is as it says.
        pairs = [lambda: fresh_pair(24), lambda: drawn_volume(Random(162), 40, 5)[0].pair, lambda: drawn_behind(Random(163), drawn_volume(Random(164), 40, 5)[0].pair)]
        for build in pairs:
            for _, pair, volume in steps_of(build, lambda pair: made(pair, 6)):
                if volume is None:
                    behind = drawn_behind(Random(165), pair)
                    self.same(made(behind, 5).tree.facts, {})
                    self.same(meaning(behind).facts, {})
            volume.do(("make", ("a",)))
            self.same([meaning(volume.pair.behind({}, {})).facts, len(meaning(volume.pair).facts)], [{}, 3])

    def test_what_sync_promises(self):
        rng = Random(166)
        for _ in seeds(0, 20):
            volume, _ = drawn_volume(rng)
            volume.sync()
            self.same(volume.synced, tuple(volume.deeds))
            self.same(volume.pair.is_flushed, True)
            self.assertEqual(meaning(drawn_behind(rng, volume.pair)), volume.tree)
            volume, _ = drawn_volume(rng)
            volume.turn()
            self.assertEqual(meaning(drawn_behind(rng, volume.pair)), volume.tree)

    def test_not_true(self):
        # The deeds that are there need not be the first ones; a turn that was cut can have happened.
        volume = made(fresh_pair(24), 4)
        for name in "abc":
            volume.do(("make", (name,)))
        self.same(meaning(volume.pair.behind({(3, part): 0 for part in range(4)}, {})).paths(), (("b",),))
        halves = volume.pair.behind({(3, 0): 0, (3, 1): 0}, {(3, 2): 0, (3, 3): 0})
        self.same([meaning(halves).paths(), halves.one == halves.other], [(("b",),), False])
        # Stopped at any step of a turn: at some of them both heads can come.
        heads = {}
        for _, pair, _ in steps_of(lambda: made(fresh_pair(24), 4).pair, lambda pair: mount(pair)):
            heads[tuple(head[0] for head in heads_that_can_come(pair))] = True
        self.same(sorted(heads), [(1,), (1, 2), (2,)])


class Losses(Case):
    def test_one_after_the_other(self):
        # All sectors of both disks, in any sequence, as far as they are borne: no meaning changes.
        rng = Random(167)
        for _ in seeds(0, 6):
            volume, _ = drawn_volume(rng, size=30, many=15, bars=4)
            lot = volume.tree
            pair = drawn_behind(rng, volume.pair, 0)
            tree = meaning(pair)
            sectors = [(which, at, part) for which in (0, 1) for at in range(30) for part in range(4)]
            rng.shuffle(sectors)
            for at, told in enumerate(sectors):
                if pair.is_borne(*told):
                    pair.lose_on(*told)
                if at % 20 == 0:
                    self.assertEqual(meaning(pair), tree)
            again = mount(pair)
            self.assertEqual(again.tree, tree)
            for told in sectors:
                if pair.is_borne(*told):
                    pair.lose_on(*told)
            self.assertEqual(meaning(pair), tree)
            self.assertEqual(volume.tree, lot)

    def test_unflushed_sectors_are_not_borne(self):
        volume = made(fresh_pair(24), 4)
        volume.do(("make", ("a",)))
        self.same([volume.pair.is_borne(which, 2, part) for which in (0, 1) for part in range(4)], [False] * 8)
        volume.sync()
        self.same([volume.pair.is_borne(which, 2, part) for which in (0, 1) for part in range(4)], [True] * 8)

    def test_what_mounting_mends(self):
        # Unlike copies at each place: those that [13.4] names are mended, all others stay as they are.
        rng = Random(168)
        kinds = {}
        for _ in seeds(0, 25):
            volume, _ = drawn_volume(rng, size=40, many=25, bars=4)
            pair = drawn_behind(rng, volume.pair, 0)
            lose_some(rng, pair, rng.choice((5, 40, 300)), range(40))
            head = found_head(pair)
            whole = [at for at in range(40) if pair.read_block(at)[0] == "whole"]
            reached = set(reached_places(pair, None)).union(*[reached_places(pair, name) for name in shot_names(pair)])
            log = [at for at in range(2, 2 + head[1]) if at in whole]
            named = reached | set(log) | {0, 1} & set(whole)
            before = [(pair.one.read(at), pair.other.read(at)) for at in range(40)]
            tree = meaning(pair)
            pair.stop_after(None)
            again = mount(pair)
            written = set(reached_places(pair, None)).union(*[reached_places(pair, name) for name in shot_names(pair)]) - reached | {(head[0] + 1) % 2}
            self.assertEqual(again.tree, tree)
            for at in range(40):
                if at in written:
                    kinds["written"] = True
                    self.assertFalse(pair.unlike(at))
                elif at in named:
                    kinds["named" + str(before[at][0] != before[at][1])] = True
                    self.assertFalse(pair.unlike(at))
                else:
                    kinds["other" + str(before[at][0] != before[at][1])] = True
                    self.same((pair.one.read(at), pair.other.read(at)), before[at])
        self.same(sorted(kinds), ["namedFalse", "namedTrue", "otherFalse", "otherTrue", "written"])


def writes_of(pair, call):
    """The places that a call writes with other cells than the pair told there, each step of the disks being looked at."""
    found = []
    for disk in (pair.one, pair.other):
        plain = disk.write

        def write(at, block, plain=plain):
            found.append((at, block))
            plain(at, block)

        disk.write = write
    told = {at: pair.read_block(at) for at in range(pair.size)}
    try:
        call()
    finally:
        for disk in (pair.one, pair.other):
            del disk.write
    cells = {}
    for at, block in found:
        cells[at] = tuple(cell for sector in block for cell in sector[3:])
    return {at for at in cells if told[at][0] != "whole" or told[at][2] != cells[at]}, [at for at, _ in found]


class Touched(Case):
    def needed(self, pair):
        """The places that no call may write with other cells: what the head reaches, its seat, and its records."""
        head = found_head(pair)
        places = {head[0] % 2}.union(reached_places(pair, None), *[reached_places(pair, name) for name in shot_names(pair)])
        records = read_log(pair, head[1], head[0])
        for at in range(2, 2 + head[1]):
            told = pair.read_block(at)
            if told[0] == "whole" and told[2][:1] == (head[0],) and told[2][1] in records:
                places.add(at)
        return places

    def test_calls_touch_nothing(self):
        rng = Random(169)
        for _ in seeds(0, 20):
            volume, _ = drawn_volume(rng, many=rng.randrange(20), bars=5)
            needed = self.needed(volume.pair)
            deed = drawn_deed(rng, volume.tree)
            row = tuple(drawn_row(rng, volume.tree, volume.number, 4)[0]) or (("order",),)
            for call in (lambda: is_refused(lambda: volume.do(deed)), volume.turn, lambda: is_refused(lambda: volume.settle(row)), volume.sync):
                needed, turns = self.needed(volume.pair), volume.turns
                changed, _ = writes_of(volume.pair, call)
                # Behind a turn within the call the elder records are void.
                log = set() if volume.turns == turns else set(range(2, 2 + volume.log))
                self.same(sorted(changed & (needed - log)), [])
            pair = drawn_behind(rng, volume.pair)
            needed = self.needed(pair)
            changed, _ = writes_of(pair, lambda: mount(pair))
            self.same(sorted(changed & needed), [])

    def test_shots_stay(self):
        rng = Random(170)
        for _ in seeds(0, 10):
            volume, _ = drawn_volume(rng, size=70, many=10, bars=6)
            volume.turn()
            kept = {name: (shot_rows(volume.pair, name), reached_places(volume.pair, name)) for name in volume.tree.shots}
            for _ in range(12):
                kind = rng.randrange(5)
                if kind == 0:
                    volume.turn()
                elif kind == 1:
                    volume = mount(drawn_behind(rng, volume.pair))
                else:
                    deed = drawn_deed(rng, volume.tree, bars=0)
                    is_refused(lambda: volume.do(deed))
                for name, (rows, places) in kept.items():
                    self.same([shot_rows(volume.pair, name), reached_places(volume.pair, name)], [rows, places])
                    self.same(rows, rows_of_tree(volume.tree.shot(name)))

    def test_steps_of_a_turn(self):
        # Two writes for each block, both disks flushed twice.
        volume = made(fresh_pair(24), 4)
        volume.do(("make", ("a",)))
        _, written = writes_of(volume.pair, volume.turn)
        self.same([len(written), len(set(written)), set(written) & set(range(1, 6))], [4, 2, set()])
        _, written = writes_of(volume.pair, volume.turn)
        self.same(written, [1, 1])
        _, written = writes_of(volume.pair, lambda: volume.do(("make", ("b",))))
        self.same(written, [2, 2])
        _, written = writes_of(volume.pair, volume.sync)
        self.same(written, [])

    def test_the_other_seat_is_mended(self):
        volume = made(fresh_pair(24), 4)
        volume.turn()
        volume.pair.lose_on(1, 1, 2)
        volume.pair.lose_on(0, 0, 1)
        _, written = writes_of(volume.pair, volume.turn)
        self.same(written, [1, 1, 1])
        self.same([volume.pair.unlike(0), volume.pair.unlike(1)], [True, False])
        self.same(meaning(volume.pair) == Tree(), True)


class Flushes(Case):
    """Each flush is needed [0.21]: without it a told row of deeds and a told cut leave what may not come."""

    def patched(self, pair, call, skipped, last):
        """Does a call, but for one flush of both disks, and stops it at another one; counted from 0."""
        count = [0]
        plain = pair.flush

        def flush():
            count[0] += 1
            if count[0] - 1 == last:
                raise Stopped("here")
            if count[0] - 1 != skipped:
                plain()

        pair.flush = flush
        stopped = raised(call)
        del pair.flush
        self.assertTrue(stopped is None if last is None else type(stopped) is Stopped)

    def kept(self, pair, places):
        """The pair behind cuts that keep just what was written at some places."""
        one, other = [{sector: len(row) - 1 for sector, row in disk.rows.items() if sector[0] in places} for disk in (pair.one, pair.other)]
        return pair.behind(one, other)

    def some_volume(self):
        volume = made(fresh_pair(40), 8)
        for at, name in enumerate("abcdef"):
            volume.do(("make", (name,)))
            if at == 2:
                volume.sync()
        return volume

    def test_the_flush_ahead_of_the_head(self):
        for skipped in (None, 0):
            volume = self.some_volume()
            self.patched(volume.pair, volume.turn, skipped, 1)
            behind = self.kept(volume.pair, (0,))
            self.same(found_head(behind)[0], 2)
            if skipped is None:
                self.assertEqual(meaning(behind), volume.tree)
            else:
                self.same(raised(lambda: meaning(behind)).reason[0], "rows")

    def test_the_flush_behind_the_head(self):
        for skipped in (None, 1):
            volume = self.some_volume()
            whole = volume.tree
            self.patched(volume.pair, volume.turn, skipped, None)
            volume.do(("folder", ("z",)))
            behind = self.kept(volume.pair, (2,))
            self.same(found_head(behind)[0], 2 if skipped is None else 1)
            if skipped is None:
                self.assertEqual(meaning(behind), volume.tree)
                self.assertEqual(meaning(volume.pair.behind({}, {})), whole)
            else:
                # The record of a synced deed is lost.
                self.same(("a",) in meaning(behind).paths(), False)

    def test_the_flush_of_a_sync(self):
        for skipped in (None, 0):
            volume = self.some_volume()
            self.patched(volume.pair, volume.sync, skipped, None)
            self.same(volume.synced, (1, 2, 3, 4, 5, 6))
            self.same(meaning(volume.pair.behind({}, {})) == volume.tree, skipped is None)

    def test_the_flush_ahead_of_mending(self):
        # While the copies that mounting mends wait to be flushed, nothing else waits.
        volume = self.some_volume()
        behind = drawn_behind(Random(175), volume.pair, 0)
        tree = meaning(behind)
        self.patched(behind, lambda: mount(behind), None, 0)
        for seed in range(20):
            self.assertEqual(meaning(drawn_behind(Random(seed), behind)), tree)


class Mounting(Case):
    def test_nothing_and_something_to_flush(self):
        for synced in (True, False):
            volume = made(fresh_pair(24), 4)
            volume.do(("make", ("a",)))
            if synced:
                volume.sync()
            again = mount(volume.pair)
            self.same([again.tree == volume.tree, again.number, again.turns, again.pair.is_flushed, again.synced], [True, 2, 2, True, ()])
            self.assertTrue(again.pair is volume.pair)
            self.assertEqual(meaning(again.pair.behind({}, {})), again.tree)

    def test_steps(self):
        # Flushed, mounting writes no more than a turn; else both disks are flushed ahead of all writing.
        for synced in (True, False):
            volume = made(fresh_pair(24), 4)
            volume.do(("make", ("a",)))
            if synced:
                volume.sync()
            steps = steps_taken(volume.pair, lambda: mount(volume.pair))
            place = reached_places(volume.pair, None)[0]
            turn = [(0, place), (1, place), (0,), (1,), (0, 0), (1, 0), (0,), (1,)]
            self.same(steps, turn if synced else [(0,), (1,)] + turn)

    def test_what_was_stopped_is_mounted_as_it_is(self):
        # A turn that was stopped is not cut: the head that is found can be one that waits to be flushed.
        rng = Random(176)
        unflushed = 0
        for seed in seeds(0, 4):
            kept = {}

            def build():
                volume, account = drawn_volume(Random(seed), 48, 4, many=14, bars=4)
                kept.update(lots=lots_of(volume, account.doings.start), volume=volume)
                return volume.pair

            def stopped(many):
                pair = build()
                pair.stop_after(many)
                raised(kept["volume"].turn)
                pair.stop_after(None)
                return pair

            for many, _, result in list(steps_of(build, lambda pair: kept["volume"].turn() or 1)):
                if result is not None:
                    continue
                for _, pair, again in steps_of(lambda: stopped(many), mount):
                    unflushed += found_head(pair)[0] == kept["volume"].turns + 1 and not pair.is_flushed
                    for _ in range(3):
                        tree = meaning(drawn_behind(rng, pair))
                        self.assertTrue(any(tree == there for there in kept["lots"].values()))
                    self.assertTrue(again is None or again.tree == kept["volume"].tree)
        self.assertGreater(unflushed, 10)

    def test_meaning_writes_nothing(self):
        rng = Random(172)
        for _ in seeds(0, 10):
            volume, _ = drawn_volume(rng)
            for pair in (volume.pair, drawn_behind(rng, volume.pair)):
                before = pair_state(pair)
                meaning(pair)
                self.assertEqual(pair_state(pair), before)

    def test_mounted_twice(self):
        rng = Random(173)
        for _ in seeds(0, 10):
            volume, _ = drawn_volume(rng)
            pair = drawn_behind(rng, volume.pair)
            first = mount(pair)
            second = mount(pair)
            self.same([first.tree == second.tree, second.turns, second.number], [True, first.turns + 1, first.number])
