"""Room [13.5], and rows of deeds that are settled at once."""

from random import Random

from helpers import Case
from everycut.errors import Refused
from everycut.keep.volumes import made, meaning, mount
from everycut.outside.pairs import fresh_pair
from everycut.plain.trees import done
from everycut.rows.room import does_fit, free_places, most_rows
from everycut.keep.heads import found_head
from volume_helpers import (
    Account, drawn_deed, drawn_row, is_refused, lots_of, most_nodes, seeds, state_of_volume, steps_of, told_of, drawn_behind)

NAMES = "abcdefghijklmnopqrstuvwxyz"


def filled(facts, size=26, log=6):
    """A volume of the first turn with so many facts, each of which has grown in this turn."""
    volume = made(fresh_pair(size), log)
    makes, links = facts // 3, facts % 3
    for at in range(makes):
        volume.do(("make", (NAMES[at],)))
    for at in range(links):
        volume.do(("link", ("a",), (NAMES[at] * 2,)))
    return volume


class Room(Case):
    def test_at_the_bound(self):
        # The shelf has 18 blocks; so 15 facts fit beside none, and 16 do not.
        self.same([most_rows(18, (), 0), most_rows(18, (), 15)], [15, 15])
        for facts, deed, grown in ((12, ("make", ("z",)), 3), (14, ("link", ("a",), ("z",)), 1), (13, ("folder", ("z",)), 2)):
            volume = filled(facts, 27 if facts == 14 else 26, 7 if facts == 14 else 6)
            self.same([volume.turns, len(volume.tree.facts)], [1, facts])
            volume.do(deed)
            self.same([volume.turns, len(volume.tree.facts), facts + grown], [1, 15, 15])
        for facts, deed in ((12, ("write", ("a",), 0, (1,) * 30)), (13, ("make", ("z",)))):
            # One fact more than fits: a turn is written, and there is none behind it either.
            volume = filled(facts)
            tree = volume.tree
            self.same(len(done(tree, 99, deed).facts), 16)
            self.refuses(Refused, ("room",), lambda: volume.do(deed))
            self.same([volume.turns, volume.tree.facts, volume.deeds, volume.synced, volume.number], [2, tree.facts, {}, (), facts // 3 + facts % 3 + 1])
            self.assertEqual(meaning(volume.pair), tree)
            # Each further call writes one more turn.
            self.refuses(Refused, ("room",), lambda: volume.do(deed))
            self.same(volume.turns, 3)
            self.same(volume.pair.is_flushed, True)

    def test_what_has_grown(self):
        # Drops give no room back until a turn.
        volume = made(fresh_pair(30), 10)
        self.same(most_rows(18, (), 0), 15)
        for _ in range(5):
            volume.do(("make", ("a",)))
            volume.do(("drop", ("a",)))
        self.same([volume.turns, len(volume), volume.tree.facts], [1, 10, {}])
        volume = made(fresh_pair(32), 12)
        for _ in range(5):
            volume.do(("make", ("a",)))
            volume.do(("drop", ("a",)))
        volume.do(("order",))
        self.same(volume.turns, 1)
        volume.do(("make", ("a",)))
        self.same([volume.turns, volume.deeds], [2, {12: ("make", ("a",))}])
        # The tree of the last turn counts, and so do deeds that have not grown.
        self.same([does_fit(18, (), 15, 4), does_fit(18, (), 15, 15), does_fit(18, (), 15, 16)], [True, True, False])

    def test_no_growth_is_not_asked(self):
        volume = filled(15)
        volume.turn()
        for deed in (("order",), ("cut", ("a",), 0), ("write", ("a",), 0, (0,)), ("move", ("a",), ("a",)), ("drop", ("b",)), ("unsnap", "s")):
            self.same(is_refused(lambda: volume.do(deed)), ("snapshot", "s") if deed[0] == "unsnap" else None)
        self.same([volume.turns, len(volume)], [2, 5])
        # An entry with another key has grown, though the one ahead of it is gone.
        volume = filled(15)
        self.refuses(Refused, ("room",), lambda: volume.do(("move", ("a",), ("z",))))
        # A snap of the empty tree has no growth.
        volume = made(fresh_pair(24), 4)
        volume.do(("snap", "s"))
        volume.settle(tuple(("make", (NAMES[at],)) for at in range(5)))
        self.same([len(volume.tree.facts), volume.tree.shots], [15, ("s",)])
        volume.do(("unsnap", "s"))
        volume.do(("order",))
        self.same(volume.turns, 2)

    def test_shots(self):
        # Beside a shot of four facts: 18 >= W(4) + 2 W(rows), 13 rows at most.
        self.same([most_nodes(4), most_rows(18, (4,), 4), most_rows(18, (4,), 15), most_rows(18, (4, 4), 0)], [3, 13, 13, 11])
        for many, fits in ((13, True), (14, False)):
            volume = made(fresh_pair(30), 10)
            volume.do(("folder", ("a",)))
            volume.do(("folder", ("b",)))
            volume.do(("snap", "s"))
            volume.do(("make", ("c",)))
            volume.do(("make", ("d",)))
            volume.do(("folder", ("e",)))
            self.same([len(volume.tree.facts), volume.turns], [12, 1])
            deed = ("link", ("c",), ("f",)) if many == 13 else ("folder", ("f",))
            self.same(is_refused(lambda: volume.do(deed)), None if fits else ("room",))
            self.same(volume.turns, 1 if fits else 2)

    def test_shots_that_are_gone(self):
        def with_gone():
            volume = made(fresh_pair(30), 10)
            volume.do(("folder", ("a",)))
            volume.do(("folder", ("b",)))
            for name in "st":
                volume.do(("snap", name))
                volume.do(("unsnap", name))
            return volume

        # 18 >= 3 + 3 + 2 W(rows) holds up to 11 rows, 18 >= 2 W(rows) up to 15.
        volume = with_gone()
        volume.do(("make", ("c",)))
        volume.do(("make", ("d",)))
        self.same([len(volume.tree.facts), volume.turns], [10, 1])
        volume.do(("folder", ("e",)))
        self.same([len(volume.tree.facts), volume.turns, list(volume.deeds)], [12, 2, [9]])
        # A snap that does not fit itself, beside what has grown.
        volume = filled(12)
        self.same([does_fit(18, (12,), 0, 12), does_fit(18, (12,), 12, 12)], [False, False])
        self.refuses(Refused, ("room",), lambda: volume.do(("snap", "s")))
        self.same([volume.turns, volume.tree.shots], [2, ()])
        # What has grown is gone behind a turn, so that the snap fits then.
        volume = made(fresh_pair(32), 12)
        for name in "abc":
            volume.do(("make", (name,)))
        volume.do(("drop", ("a",)))
        volume.do(("drop", ("b",)))
        self.same([does_fit(18, (3,), 0, 9), does_fit(18, (3, 3), 0, 15), does_fit(18, (3, 3, 3), 0, 15), len(volume.tree.facts)], [True, True, False, 3])
        volume.do(("make", ("a",)))
        volume.do(("make", ("b",)))
        volume.do(("drop", ("a",)))
        volume.do(("drop", ("b",)))
        self.same(volume.turns, 1)
        volume.do(("snap", "s"))
        volume.do(("snap", "t"))
        self.same([volume.turns, volume.tree.shots], [1, ("s", "t")])
        volume.do(("snap", "u"))
        self.same([volume.turns, volume.tree.shots, list(volume.deeds)], [2, ("s", "t", "u"), [12]])

    def test_many_snaps_of_one_turn(self):
        # More than sixteen shots of one turn are counted, gone or not.
        volume = made(fresh_pair(120), 40)
        volume.do(("folder", ("a",)))
        for _ in range(19):
            volume.do(("snap", "s"))
            volume.do(("unsnap", "s"))
        self.same([volume.turns, len(volume)], [1, 39])
        volume.do(("make", ("b",)))
        self.same([volume.turns, len(volume)], [1, 40])

    def test_places_are_never_lacking(self):
        # Volumes near their bound: what fits can be written, and each turn leaves the room that [7.3] tells.
        rng = Random(150)
        least = 99
        for _ in seeds(0, 12):
            size, log = rng.choice(((24, 4), (24, 6), (30, 4), (34, 16), (44, 5)))
            volume, account = made(fresh_pair(size), log), Account(size, log)
            for _ in range(70):
                deed = drawn_deed(rng, volume.tree, bars=rng.choice((0, 6)))
                if deed[0] == "drop" and rng.randrange(3):
                    continue
                self.same(is_refused(lambda: volume.do(deed)), account.do(deed))
                if rng.randrange(6) == 0:
                    volume.turn(), account.turn()
                    head = found_head(volume.pair)
                    told = [(at, volume.pair.read_block(at)) for at in range(2 + log, size)]
                    blocks = {at: there[2] for at, there in told if there[0] == "whole"}
                    free = free_places(size, log, blocks, (head[3],) + tuple(root for _, root in head[4]))
                    self.assertGreaterEqual(len(free), most_nodes(len(volume.tree.facts)))
                    least = min(least, len(free) - most_nodes(len(volume.tree.facts)))
                if rng.randrange(10) == 0:
                    volume = mount(drawn_behind(rng, volume.pair))
                    account = Account(size, log, volume.tree, volume.number, volume.turns)
                    self.same(told_of(volume), account.told())
        self.assertLess(least, 8)


class Settling(Case):
    def test_drawn_rows(self):
        rng = Random(151)
        refused = {}
        for _ in seeds(0, 20):
            volume = made(fresh_pair(rng.choice((24, 30, 60))), 5)
            account = Account(volume.pair.size, 5)
            for _ in range(6):
                row, _ = drawn_row(rng, volume.tree, volume.number, rng.randrange(1, 9), bars=4)
                if rng.randrange(3) == 0:
                    row.insert(rng.randrange(len(row) + 1), drawn_deed(rng, volume.tree, tries=1))
                if not row:
                    continue
                reason = account.settle(tuple(row))
                self.same(is_refused(lambda: volume.settle(tuple(row))), reason)
                refused[reason] = True
                self.same(told_of(volume), account.told())
                self.assertEqual(mount(volume.pair.copied()).tree, volume.tree)
                deed = drawn_deed(rng, volume.tree)
                self.same(is_refused(lambda: volume.do(deed)), account.do(deed))
        self.assertIn(None, refused)
        self.assertIn(("room",), refused)

    def test_one_and_forty(self):
        volume = made(fresh_pair(24), 4)
        volume.settle((("make", ("a",)),))
        self.same([volume.turns, volume.number, volume.deeds, volume.tree.paths()], [2, 2, {}, (("a",),)])
        row = tuple(("write", ("a",), 0, (at + 1,)) for at in range(38)) + (("snap", "s"), ("cut", ("a",), 0))
        volume.settle(row)
        self.same([volume.turns, volume.number, volume.tree.numbers_of(16), volume.tree.shot("s").numbers_of(16)], [3, 42, (), (38,)])
        self.same(meaning(volume.pair).shot("s").numbers_of(16), (38,))
        volume.do(("drop", ("a",)))
        self.same(volume.deeds, {42: ("drop", ("a",))})

    def test_a_refused_one(self):
        volume = made(fresh_pair(24), 4)
        volume.do(("make", ("a",)))
        before = state_of_volume(volume)
        row = (("folder", ("b",)), ("move", ("a",), ("b", "c")), ("drop", ("a",)), ("order",))
        self.refuses(Refused, ("gone", ("a",)), lambda: volume.settle(row))
        self.refuses(Refused, ("snapshot", "s"), lambda: volume.settle((("snap", "s"), ("snap", "s"))))
        self.refuses(Refused, ("there", ("a",)), lambda: volume.settle((("make", ("a",)),) * 40))
        # Without room it is the reason that counts, not the room.
        self.refuses(Refused, ("gone", ("z",)), lambda: volume.settle(tuple(("make", (name,)) for name in "bcdefghi") + (("drop", ("z",)),)))
        self.assertEqual(state_of_volume(volume), before)
        volume.settle(row[:2])
        self.same([volume.tree.paths(), volume.number], [(("b",), ("b", "c")), 4])

    def test_facts_behind_all_deeds(self):
        # What comes and goes within the row is not counted, nor what has grown ahead of it.
        volume = made(fresh_pair(24), 4)
        row = sum([(("make", (name,)), ("drop", (name,))) for name in NAMES[:20]], ())
        volume.settle(row)
        self.same([volume.turns, volume.number, volume.tree.facts], [2, 41, {}])
        volume.settle(tuple(("make", (name,)) for name in "abcde"))
        self.same([volume.turns, len(volume.tree.facts)], [3, 15])
        self.refuses(Refused, ("room",), lambda: volume.settle((("link", ("a",), ("f",)),)))
        self.same([volume.turns, len(volume.tree.facts), volume.number], [4, 15, 46])
        volume.settle((("link", ("a",), ("f",)), ("drop", ("b",))))
        self.same([volume.turns, len(volume.tree.facts), volume.number], [5, 13, 48])
        # With room but behind a turn: the snaps of this turn are gone.
        volume = made(fresh_pair(24), 4)
        volume.do(("folder", ("a",)))
        volume.do(("folder", ("b",)))
        volume.do(("snap", "s"))
        volume.do(("unsnap", "s"))
        self.same([does_fit(18, (4,), 0, 14), does_fit(18, (), 4, 14)], [False, True])
        volume.settle((("make", ("c",)), ("make", ("d",)), ("make", ("e",)), ("link", ("c",), ("f",))))
        self.same([volume.turns, len(volume.tree.facts)], [3, 14])
        # Snaps of the row itself are counted, also if they are gone behind it.
        volume = made(fresh_pair(24), 4)
        makes = tuple(("make", (name,)) for name in "abcd")
        self.same([does_fit(18, (12,), 0, 12), does_fit(18, (12, 12), 0, 0), does_fit(18, (12, 12, 12), 0, 0)], [False, True, False])
        self.refuses(Refused, ("room",), lambda: volume.settle(makes + (("snap", "s"),)))
        self.refuses(Refused, ("room",), lambda: volume.settle(makes + (("snap", "s"), ("unsnap", "s"))))
        drops = tuple(("drop", (name,)) for name in "abcd")
        self.refuses(Refused, ("room",), lambda: volume.settle(makes + (("snap", "s"), ("unsnap", "s")) * 3 + drops))
        self.same(volume.turns, 4)
        volume.settle(makes + (("snap", "s"), ("unsnap", "s")) * 2 + drops)
        self.same([volume.turns, volume.tree.shots, volume.tree.facts], [5, (), {}])

    def test_all_or_none(self):
        rng = Random(152)
        seen = {}
        for seed in seeds(0, 4):
            row = [None]

            def build():
                inner = Random(seed)
                volume = made(fresh_pair(40), 5)
                for _ in range(4):
                    is_refused(lambda: volume.do(drawn_deed(inner, volume.tree)))
                    if inner.randrange(3) == 0:
                        volume.sync()
                row[0] = tuple(drawn_row(inner, volume.tree, volume.number, 5, bars=5)[0]) or (("order",),)
                self.volume, self.start = volume, volume._doings.start
                return volume.pair

            for many, pair, _ in steps_of(build, lambda pair: self.volume.settle(row[0]) or 1):
                build_pair, volume, start = pair, self.volume, self.start
                build()
                ahead = self.volume
                elder = list(lots_of(ahead, start).values())
                whole = ahead.tree
                for at, deed in enumerate(row[0]):
                    whole = done(whole, ahead.number + at, deed)
                for _ in range(6):
                    behind = meaning(drawn_behind(rng, build_pair))
                    self.assertTrue(behind == whole or any(behind == tree for tree in elder))
                    seen[behind == whole] = True
        self.same(sorted(seen), [False, True])
