"""Over the whole program: long rows of calls, cut and stopped anywhere, beside a plain account of lots."""

from random import Random

from helpers import Case
from everycut.errors import Refused, Stopped
from everycut.keep.heads import heads_that_can_come
from everycut.keep.lots import cut_for, is_cut_for, lots_that_can_come
from everycut.keep.sends import are_alike, difference, is_difference
from everycut.keep.volumes import made, meaning, mount
from everycut.mend.mender import faults, is_sound, mend
from everycut.outside.pairs import fresh_pair, renewed
from everycut.plain.trees import Tree, done, refusal
from everycut.plain.waits import Doings, lower_lots
from everycut.use.shell import Shell
from everycut.use.texts import cuts_text, deed_text, read_sent, read_tree, sent_text, tree_text
from pair_helpers import lose_some
from volume_helpers import drawn_behind, drawn_cut, drawn_deed, drawn_row, seeds


class Ledger:
    """All that can be meant: a tree that is settled, and the deeds done since then, some of them synced."""

    def __init__(self):
        self.begin(Tree())

    def begin(self, tree):
        self.doings, self.synced = Doings(tree), ()

    def lots(self):
        return [self.doings.tree_of(lot) for lot in lower_lots(self.doings.waits) if set(self.synced) <= set(lot)]

    def with_deed(self, number, deed):
        """The trees that can be meant while a deed is done, a turn coming first or not."""
        twin = Doings(self.doings.start)
        for at, there in self.doings.deeds.items():
            twin.add(at, there)
        if len(twin) == 40:
            return self.lots() + [done(twin.tree, number, deed)]
        twin.add(number, deed)
        return [twin.tree_of(lot) for lot in lower_lots(twin.waits) if set(self.synced) <= set(lot)]


class Long(Case):
    def call(self, rng, volume):
        """A drawn call: its word, what does it, and the trees that can be meant amid it."""
        kind = rng.randrange(20)
        if kind < 11:
            deed = drawn_deed(rng, volume.tree, bars=4)
            return "do", lambda: volume.do(deed), deed
        if kind < 14:
            return "sync", volume.sync, None
        if kind < 16:
            return "turn", volume.turn, None
        if kind < 18:
            row = tuple(drawn_row(rng, volume.tree, volume.number, rng.randrange(1, 6), bars=4)[0]) or (("order",),)
            return "settle", lambda: volume.settle(row), row
        return "mount", lambda: mount(volume.pair), None

    def allowed(self, ledger, volume, word, told):
        if word == "do" and refusal(volume.tree, volume.number, told) is None:
            return ledger.with_deed(volume.number, told)
        if word == "settle":
            tree = volume.tree
            for at, deed in enumerate(told):
                tree = done(tree, volume.number + at, deed)
            return ledger.lots() + [tree]
        return ledger.lots()

    def behind_all(self, rng, pair, trees):
        """Cuts, losses, mountings and mendings, each of them stopped at times: a mounted volume, and the ledger of it."""
        pair = drawn_behind(rng, pair)
        tree = meaning(pair)
        self.assertTrue(any(tree == there for there in trees))
        while True:
            kind = rng.randrange(4)
            pair.stop_after(rng.choice((None, None, rng.randrange(30))))
            try:
                if kind == 0 and pair.is_flushed:
                    found = faults(pair)
                    self.assertTrue(all(fault[0] == "copies" for fault in found))
                    self.same([mend(pair), is_sound(pair)], [found, True])
                elif kind < 3:
                    volume = mount(pair)
                    pair.stop_after(None)
                    self.assertEqual(volume.tree, tree)
                    return volume
                self.count["mended"] = self.count.get("mended", 0) + 1
            except Stopped:
                self.count["stopped"] = self.count.get("stopped", 0) + 1
            pair.stop_after(None)
            pair = drawn_behind(rng, pair)
            self.assertEqual(meaning(pair), tree)

    def test_long_rows(self):
        self.count = {}
        for seed in seeds(0, 14):
            rng = Random(seed)
            size, log = rng.choice(((24, 4), (26, 8), (40, 5), (70, 6)))
            volume, ledger = made(fresh_pair(size), log), Ledger()
            for _ in range(60):
                word, call, told = self.call(rng, volume)
                trees = self.allowed(ledger, volume, word, told)
                if rng.randrange(3) == 0:
                    lose_some(rng, volume.pair, rng.randrange(8), range(size))
                pair, turns, number = volume.pair, volume.turns, volume.number
                pair.stop_after(rng.choice((None, None, None, rng.randrange(24))))
                try:
                    result = call()
                except Refused:
                    pass
                except Stopped:
                    pair.stop_after(None)
                    self.count[word] = self.count.get(word, 0) + 1
                    volume = self.behind_all(rng, pair, trees)
                    ledger.begin(volume.tree)
                    continue
                pair.stop_after(None)
                if word == "mount":
                    volume = result
                if volume.turns != turns:
                    ledger.begin(volume.tree if word != "do" else ledger.doings.tree)
                if word == "do" and volume.number > number:
                    ledger.doings.add(number, told)
                if word == "sync":
                    ledger.synced = tuple(ledger.doings.deeds)
                self.same([volume.tree == ledger.doings.tree, volume.deeds, volume.waits, volume.synced], [True, ledger.doings.deeds, ledger.doings.waits, ledger.synced])
                if rng.randrange(5) == 0:
                    volume = self.behind_all(rng, volume.pair, ledger.lots())
                    ledger.begin(volume.tree)
                elif rng.randrange(5) == 0 and len(ledger.doings.waits) < 8:
                    lot = rng.choice(lots_that_can_come(volume))
                    one, other = cut_for(volume, lot)
                    self.same(is_cut_for(volume, lot, (one, other)), True)
                    self.assertEqual(mount(volume.pair.behind(one, other)).tree, ledger.doings.tree_of(lot))
        self.assertGreater(min(self.count[word] for word in ("do", "turn", "settle", "mount", "stopped", "mended")), 5)

    def test_a_disk_that_is_put_in_anew(self):
        rng = Random(260)
        for which in (0, 1):
            volume = made(fresh_pair(40), 5)
            for _ in range(12):
                deed = drawn_deed(rng, volume.tree)
                if refusal(volume.tree, volume.number, deed) is None:
                    volume.do(deed)
            volume.sync()
            pair = renewed(volume.pair, which)
            self.assertEqual(meaning(pair), volume.tree)
            self.same([fault[0] for fault in faults(pair)].count("copies"), len(faults(pair)))
            mend(pair)
            self.same([is_sound(pair), mount(pair).tree == volume.tree], [True, True])

    def test_two_volumes(self):
        # Differences are sent as texts from one volume to another one, whatever cuts come amid.
        rng = Random(261)
        sent = 0
        for _ in seeds(0, 6):
            one, other = made(fresh_pair(90), 6), made(fresh_pair(120), 5)
            for _ in range(8):
                for _ in range(rng.randrange(8)):
                    deed = drawn_deed(rng, one.tree, bars=1)
                    try:
                        one.do(deed)
                    except Refused:
                        pass
                if rng.randrange(3) == 0:
                    one = mount(drawn_behind(rng, one.pair))
                deeds = difference(other.tree, one.tree)
                text = sent_text(deeds)
                self.same([read_sent(text) == deeds, is_difference(other.tree, one.tree, read_sent(text))], [True, True])
                if not deeds:
                    self.same([are_alike(one.tree, other.tree), tree_text(one.tree) == tree_text(other.tree)], [True, True])
                    continue
                ahead = other.tree
                other.pair.stop_after(rng.choice((None, rng.randrange(40))))
                try:
                    other.settle(read_sent(text))
                    other.pair.stop_after(None)
                except Stopped:
                    other.pair.stop_after(None)
                    other = mount(drawn_behind(rng, other.pair))
                    # The difference comes whole or not at all.
                    self.assertTrue(other.tree == ahead or are_alike(other.tree, one.tree))
                    continue
                sent += 1
                self.same([are_alike(one.tree, other.tree), tree_text(other.tree)], [True, tree_text(one.tree)])
            fresh = made(fresh_pair(120), 4)
            deeds = read_tree(tree_text(one.tree))
            for at in range(0, len(deeds), 40):
                fresh.settle(deeds[at:at + 40])
            self.same(tree_text(fresh.tree), tree_text(one.tree))
        self.assertGreater(sent, 12)

    def test_shells(self):
        # All that a shell answers is what its volume would, through cuts and losses that are told as texts.
        rng = Random(262)
        for _ in seeds(0, 6):
            shell, volume = Shell(40, 5), made(fresh_pair(40), 5)
            for _ in range(50):
                kind = rng.randrange(10)
                if kind < 6:
                    deed = drawn_deed(rng, volume.tree, tries=3)
                    try:
                        volume.do(deed)
                        answer = f"done {volume.number - 1}"
                    except Refused as error:
                        answer = "refused " + error.reason[0]
                    self.assertTrue(shell.run(deed_text(deed)).startswith(answer))
                elif kind < 8:
                    word = rng.choice(("sync", "turn"))
                    shell.run(word)
                    volume.sync() if word == "sync" else volume.turn()
                elif kind == 8:
                    cuts = (drawn_cut(rng, volume.pair.one), drawn_cut(rng, volume.pair.other))
                    self.same(shell.run("cut " + cuts_text(cuts)), "mounted")
                    volume = mount(volume.pair.behind(cuts[0], cuts[1]))
                else:
                    told = (rng.randrange(2), rng.randrange(40), rng.randrange(4))
                    if shell.run(f"lose {('one', 'other')[told[0]]} {told[1]} {told[2]}") == "lost":
                        volume.pair.lose_on(*told)
                self.same(shell.volume == volume, True)
                self.same([shell.run("tree"), shell.run("volume"), len(heads_that_can_come(shell.volume.pair))], [tree_text(volume.tree), str(volume), 1])
