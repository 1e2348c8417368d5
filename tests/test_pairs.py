from itertools import product
from random import Random

from helpers import (
    Arg, Case, WrongCase, anything, number, pair_state, raised, random_block, reference_told, two_disks)
from everycut.errors import (
    InvalidBlock, InvalidCut, InvalidDisk, InvalidNumber, InvalidOperation, Stopped, TooMany)
from everycut.outside import blocks, disks, pairs
from everycut.outside.blocks import made_block, told_block, whole_editions
from everycut.outside.disks import Disk, fresh_picture, is_cut
from everycut.outside.pairs import (
    Pair, are_cuts_for_told, cuts_for_told, fresh_pair, renewed, told_behind_cuts)

EXAMPLES = '''
>>> P = fresh_pair(24)
>>> [P.write_block(5, (1, 2)), P.read_block(5), told_behind_cuts(P, 5), P.unlike(5), str(P)]
[1, ('whole', 1, (1, 2)), (('blank',), ('torn',), ('whole', 1, (1, 2))), False, 'pair of 24 blocks, 8 sectors to flush']
>>> P.flush()
>>> [P.write_block(5, (7,)), P.write_block(6, ()), told_behind_cuts(P, 5), P.last_edition]
[2, 3, (('torn',), ('whole', 1, (1, 2)), ('whole', 2, (7,))), 3]
>>> Q = P.behind({(5, 0): 0}, {(5, 1): 0, (5, 2): 0, (5, 3): 0})
>>> [Q.read_block(5), told_block(5, Q.one.read(5)), Q.read_block(6), Q.unlike(5), Q.mend(5), Q.mend(5)]
[('whole', 2, (7,)), ('torn',), ('blank',), True, (0, 1), ()]
>>> Q.flush()
>>> [Q.unlike(5), Q.is_borne(0, 5, 3), are_cuts_for_told(P, 5, ("whole", 1, (1, 2)), ({}, {(6, 0): 0}))]
[False, True, True]
>>> Q.lose_on(0, 5, 3)
>>> Q.lose_on(1, 5, 0)
>>> [Q.read_block(5), Q.is_borne(1, 5, 3)]
[('whole', 2, (7,)), False]
>>> renewed(Q, 1)
raises InvalidOperation
'''

LAST = 10 ** 18 - 1
BLANK = ((),) * 4


def cuts_here(disk, at):
    """All cuts of sectors of a place, with the blocks behind them."""
    rows = {sector: row for sector, row in disk.rows.items() if sector[0] == at}
    for indices in product(*[range(-1, len(row)) for row in rows.values()]):
        cut = {sector: index for sector, index in zip(rows, indices) if index >= 0}
        block = list(disk.settled[at])
        for sector, index in cut.items():
            block[sector[1]] = rows[sector][index]
        yield cut, tuple(block)


def trial(pair, at):
    """The dict from all that can be told behind cuts to a pair of cuts, by trying all of them."""
    found = {}
    ones, others = list(cuts_here(pair.one, at)), list(cuts_here(pair.other, at))
    told = {}
    for (one_cut, one), (other_cut, other) in product(ones, others):
        if (one, other) not in told:
            told[one, other] = reference_told(at, (one, other))
        found.setdefault(told[one, other], (one_cut, other_cut))
    return found


def some_cells(rng):
    return (rng.randrange(2),) * rng.choice((0, 1, 13, 14, 27, 52))


def lose_borne(rng, pair, at, many):
    for _ in range(many):
        which, part = rng.randrange(2), rng.randrange(4)
        if pair.is_borne(which, at, part):
            pair.lose_on(which, at, part)


class Pairs(Case):
    def test_examples(self):
        self.examples(EXAMPLES, {**vars(disks), **vars(blocks), **vars(pairs)})

    def test_constant_and_sizes(self):
        self.same(pairs.MOST_ROW, 12)
        for size in (24, 240):
            pair = fresh_pair(size)
            self.same([pair.size, len(pair), pair.one.size, pair.other.size, str(pair)],
                      [size, size, size, size, f"pair of {size} blocks, 0 sectors to flush"])
        self.refuses(InvalidOperation, None, lambda: Pair(Disk(fresh_picture(24)), Disk(fresh_picture(25))))

    def test_the_disks_are_those_that_were_passed(self):
        one, other = two_disks()
        pair = Pair(one, other)
        self.assertTrue(pair.one is one and pair.other is other)
        pair.write_block(5, (1,))
        self.same([one.read(5), other.read(5)], [made_block(5, 1, (1,))] * 2)
        one.write(6, BLANK)
        self.assertEqual(str(pair), "pair of 24 blocks, 12 sectors to flush")
        self.assertIsNone(pair.flush())
        self.same([one.rows, other.rows, pair.is_flushed], [{}, {}, True])
        other.write(6, BLANK)
        self.assertIs(pair.is_flushed, False)

    def test_equal(self):
        pair, twin = fresh_pair(24), fresh_pair(24)
        self.assertTrue(pair == twin)
        twin.stop_after(0)
        self.assertTrue(pair == twin)
        twin.stop_after(None)
        twin.write_block(5, ())
        self.assertTrue(pair != twin)
        pair.write_block(5, ())
        self.assertTrue(pair == twin)
        swapped = Pair(pair.other.copied(), pair.one.copied())
        self.assertTrue(pair == swapped)
        pair.one.flush()
        swapped.other.flush()
        self.assertFalse(pair == swapped)
        for value in anything():
            self.assertIs(fresh_pair(24) == value, isinstance(value, Pair))
            self.assertIs(fresh_pair(24) != value, not isinstance(value, Pair))
        with self.assertRaises(TypeError):
            iter(pair)

    def test_told_against_the_words(self):
        rng = Random(21)
        for _ in range(400):
            one, other = two_disks()
            pair = Pair(one, other)
            for _ in range(4):
                rng.choice((one, other)).write(5, rng.choice(
                    (random_block(rng, 5, (1, 2)), made_block(5, rng.randrange(1, 3), some_cells(rng)))))
                if rng.randrange(3) == 0:
                    rng.choice((one, other)).lose(5, rng.randrange(4))
            here = one.read(5), other.read(5)
            self.same(pair.read_block(5), reference_told(5, here))
            self.assertIs(pair.unlike(5), here[0] != here[1] or None in here[0])

    def test_alike_takes_no_lost_sector(self):
        pair = fresh_pair(24)
        pair.one.lose(5, 1)
        self.assertIs(pair.unlike(5), True)
        pair.other.lose(5, 1)
        self.assertIs(pair.unlike(5), True)
        self.same([pair.unlike(6), pair.read_block(5), pair.read_block(6)], [False, ("lost",), ("blank",)])

    def test_editions(self):
        pair = fresh_pair(24)
        self.same([pair.last_edition, pair.write_block(5, (1,)), pair.write_block(5, (1,))], [0, 1, 2])
        pair.one.write(7, made_block(7, 40, ()))
        pair.one.write(7, BLANK)
        self.same([pair.last_edition, pair.write_block(6, ()), pair.last_edition], [40, 41, 41])
        pair.other.write(8, ((), (), (), (8, 50, 3)))
        self.same(pair.write_block(6, ()), 51)
        pair.other.flush()
        pair.other.write(8, ((), (8, 99, 0), (9, 99, 1), (8, 99)))
        self.same(pair.last_edition, 51)
        pair.one.write(9, made_block(9, LAST - 1, ()))
        self.same([pair.write_block(9, (3,)), pair.last_edition], [LAST, LAST])
        before = pair_state(pair)
        self.refuses(TooMany, LAST, lambda: pair.write_block(10, ()))
        self.refuses(InvalidBlock, None, lambda: pair.write_block(10, (1,) * 53))
        self.assertEqual(before, pair_state(pair))

    def test_what_is_written_is_told(self):
        rng = Random(22)
        for _ in range(60):
            pair, there = fresh_pair(24), {}
            for _ in range(20):
                at = rng.choice((0, 5, 6, 23))
                kind = rng.randrange(4)
                if kind < 2:
                    cells = some_cells(rng)
                    edition = pair.write_block(at, cells)
                    self.assertTrue(all(edition > told[1] for told in there.values()))
                    there[at] = ("whole", edition, cells)
                elif kind == 2:
                    pair.flush()
                else:
                    lose_borne(rng, pair, at, 3)
                for place in (0, 5, 6, 23):
                    self.same(pair.read_block(place), there.get(place, ("blank",)))

    def test_behind(self):
        pair = fresh_pair(24)
        pair.write_block(5, (1,))
        before = pair_state(pair)
        behind = pair.behind({(5, 0): 0}, {(5, 3): 0})
        self.same([behind.one.settled[5], behind.other.settled[5]],
                  [((5, 1, 0, 1), (), (), ()), ((), (), (), (5, 1, 3))])
        self.assertTrue(behind == Pair(pair.one.after({(5, 0): 0}), pair.other.after({(5, 3): 0})))
        behind.write_block(7, ())
        self.assertEqual(before, pair_state(pair))
        for one_cut, other_cut in (({(6, 0): 0}, {}), ({}, {(6, 0): 0}), (None, None), ({(5, 0): 1}, 3), ({}, {(5, 0): True})):
            self.refuses(InvalidCut, None, lambda: pair.behind(one_cut, other_cut))
        twin = pair.copied()
        self.assertTrue(twin == pair)
        twin.flush()
        self.assertEqual(before, pair_state(pair))


class Losses(Case):
    def test_borne_ones(self):
        rng = Random(23)
        for _ in range(200):
            one, other = two_disks()
            pair = Pair(one, other)
            for _ in range(4):
                disk = rng.choice((one, other))
                disk.write(5, made_block(5, rng.randrange(1, 3), ()))
                rng.choice((disk.flush, lambda: pair.flush(), lambda: disk.lose(5, rng.randrange(4)), lambda: None))()
            for which, part in product((0, 1), range(4)):
                settled = (one.settled[5][part], other.settled[5][part])
                borne = (5, part) not in one.rows and (5, part) not in other.rows and (
                    settled[0] == settled[1] and settled[0] is not None)
                self.assertIs(pair.is_borne(which, 5, part), borne)
                twin = pair.copied()
                if borne:
                    told = [twin.read_block(at) for at in range(24)]
                    self.assertIsNone(twin.lose_on(which, 5, part))
                    self.same([twin.read_block(at) for at in range(24)], told)
                    self.assertIsNone((twin.one, twin.other)[which].settled[5][part])
                    self.same((twin.one, twin.other)[1 - which].settled, (one, other)[1 - which].settled)
                    self.assertIs(twin.is_borne(1 - which, 5, part), False)
                    self.assertIs(twin.is_borne(which, 5, part), False)
                else:
                    self.refuses(InvalidOperation, None, lambda: twin.lose_on(which, 5, part))
                    self.assertTrue(twin == pair)

    def test_a_row_of_equal_values_is_a_row(self):
        pair = fresh_pair(24)
        pair.one.write(5, BLANK)
        self.same([pair.is_borne(0, 5, 0), pair.is_borne(1, 5, 0), pair.is_borne(1, 6, 0)], [False, False, True])

    def test_losses_one_after_the_other(self):
        rng = Random(24)
        for _ in range(50):
            pair = fresh_pair(24)
            cells = some_cells(rng)
            edition = pair.write_block(5, cells)
            pair.flush()
            for part in rng.sample(range(4), 4):
                pair.lose_on(rng.randrange(2), 5, part)
                self.same(pair.read_block(5), ("whole", edition, cells))
                self.same(told_behind_cuts(pair, 5), (("whole", edition, cells),))
            self.assertEqual(pair.mend(5), tuple(
                which for which in (0, 1) if None in (pair.one, pair.other)[which].settled[5]))
            pair.flush()
            self.assertIs(pair.unlike(5), False)

    def test_losses_change_nothing_behind_cuts(self):
        rng = Random(25)
        for _ in range(40):
            pair = fresh_pair(24)
            for at in (5, 5, 6):
                pair.write_block(at, some_cells(rng))
                if rng.randrange(2):
                    pair.flush()
            before = [told_behind_cuts(pair, at) for at in (5, 6, 7)]
            lose_borne(rng, pair, rng.choice((5, 6, 7)), 3)
            self.same([told_behind_cuts(pair, at) for at in (5, 6, 7)], before)


class Behind(Case):
    def check(self, pair, at):
        before = pair_state(pair)
        found = trial(pair, at)
        self.same(told_behind_cuts(pair, at), tuple(sorted(found)))
        for told, cuts in found.items():
            self.assertIs(are_cuts_for_told(pair, at, told, cuts), True)
            made = cuts_for_told(pair, at, told)
            self.assertIsInstance(made, tuple)
            self.assertTrue(is_cut(pair.one, made[0]) and is_cut(pair.other, made[1]))
            self.assertTrue(all(sector[0] == at for cut in made for sector in cut))
            self.same([list(cut) for cut in made], [sorted(cut) for cut in made])
            self.same(pair.behind(*made).read_block(at), told)
            for other in found:
                self.assertIs(are_cuts_for_told(pair, at, other, made), other == told)
        for told in (("lost",), ("blank",), ("torn",), ("whole", 1, ()), ("whole", 2, (1,)), ("whole", 9, ())):
            if told not in found:
                self.assertIsNone(cuts_for_told(pair, at, told))
        self.assertEqual(before, pair_state(pair))

    def test_written_none_to_three_times(self):
        rng = Random(26)
        for turn in range(60):
            pair = fresh_pair(24)
            for _ in range(rng.randrange(3)):
                pair.write_block(5, some_cells(rng))
                pair.flush()
            if turn % 2:
                lose_borne(rng, pair, 5, 3)
            for _ in range(rng.randrange(4) if turn % 6 == 0 else rng.randrange(3)):
                pair.write_block(5, some_cells(rng))
            self.check(pair, 5)
            self.check(pair, 6)

    def test_whatever_lies_on_the_disks(self):
        rng = Random(27)
        seen = {}
        checked = 0
        while checked < 250:
            one, other = two_disks()
            pair = Pair(one, other)
            editions = rng.choice(((1,), (1, 2), (1, 2, 3)))
            for _ in range(rng.randrange(1, 7)):
                disk = rng.choice((one, other))
                kind = rng.randrange(10)
                if kind < 6:
                    whole = made_block(5, rng.choice(editions), some_cells(rng))
                    near = random_block(rng, 5, editions, rng.choice((0, 1, 13)))
                    disk.write(5, rng.choice((whole, near, whole[:2] + near[2:])))
                elif kind < 8:
                    disk.flush()
                else:
                    part = rng.randrange(4)
                    for lost in rng.choice(((disk,), (one, other))):
                        lost.lose(5, part)
            if one.cut_number * other.cut_number <= 3000:
                self.check(pair, 5)
                checked += 1
                for told in told_behind_cuts(pair, 5):
                    seen[told[0]] = seen.get(told[0], 0) + 1
        self.assertTrue(all(seen.get(word, 0) > 20 for word in ("whole", "torn", "lost", "blank")), seen)

    def test_a_greater_edition_that_cannot_be_avoided(self):
        for cells in ((), (1,), (1,) * 52):
            one, other = two_disks()
            for disk, edition in ((one, 3), (other, 7)):
                disk.write(5, made_block(5, edition, (2,)))
                disk.flush()
            other.write(5, made_block(5, 7, (2,)))
            one.write(5, made_block(5, 3, cells))
            self.check(Pair(one, other), 5)
        one, other = two_disks()
        one.write(5, made_block(5, 3, (2,)))
        one.flush()
        other.write(5, made_block(5, 7, (1,) * 52))
        other.flush()
        other.write(5, made_block(5, 7, (2,) * 52))
        self.assertNotIn(("whole", 3, (2,)), told_behind_cuts(Pair(one, other), 5))
        self.assertEqual(len(told_behind_cuts(Pair(one, other), 5)), 16)
        self.check(Pair(one, other), 5)
        other.write(5, made_block(5, 7, (2,) * 5))
        self.assertIn(("whole", 3, (2,)), told_behind_cuts(Pair(one, other), 5))
        self.check(Pair(one, other), 5)

    def test_just_these_can_be_told(self):
        rng = Random(28)
        for start in (False, True):
            pair = fresh_pair(24)
            settled = ("blank",)
            if start:
                settled = ("whole", pair.write_block(5, (4,) * 30), (4,) * 30)
                pair.flush()
            written = []
            for many in range(1, 13):
                cells = some_cells(rng)
                written.append(("whole", pair.write_block(5, cells), cells))
                told = told_behind_cuts(pair, 5)
                self.same(told, tuple(sorted([settled, ("torn",)] + written)))
                for wanted in told:
                    made = cuts_for_told(pair, 5, wanted)
                    self.assertIs(are_cuts_for_told(pair, 5, wanted, made), True)
                    self.same(pair.behind(*made).read_block(5), wanted)
            pair.write_block(5, ())
            for call in (lambda: told_behind_cuts(pair, 5), lambda: cuts_for_told(pair, 5, None)):
                self.refuses(TooMany, 12, call)
            self.same(told_behind_cuts(pair, 6), (("blank",),))
            self.assertIs(are_cuts_for_told(pair, 5, settled, ({}, {})), True)
            for disk in (pair.one, pair.other):
                for part in range(4):
                    disk.lose(5, part)
            self.same(told_behind_cuts(pair, 5), (("lost",),))
            for _ in range(13):
                pair.other.write(5, BLANK)
            self.refuses(TooMany, 12, lambda: told_behind_cuts(pair, 5))

    def test_at_a_place_without_rows_the_same_is_told(self):
        pair = fresh_pair(24)
        pair.write_block(5, (1,))
        pair.flush()
        pair.lose_on(0, 5, 1)
        pair.write_block(6, (3,))
        self.same(told_behind_cuts(pair, 5), (("whole", 1, (1,)),))
        self.assertIs(are_cuts_for_told(pair, 5, ("whole", 1, (1,)), ({(6, 0): 0}, {(6, 1): 0})), True)

    def test_one_disk_ahead_of_the_other_one(self):
        pair = fresh_pair(24)
        pair.write_block(5, (1,))
        pair.flush()
        pair.stop_after(1)
        self.refuses(Stopped, None, lambda: pair.write_block(5, (2,)))
        self.same(pair.read_block(5), ("whole", 2, (2,)))
        self.same(told_behind_cuts(pair, 5), (("whole", 1, (1,)), ("whole", 2, (2,))))
        pair.one.flush()
        self.same([told_behind_cuts(pair, 5), pair.unlike(5)], [(("whole", 2, (2,)),), True])
        self.check(pair, 5)

    def test_told_values_and_cuts_that_are_none(self):
        pair = fresh_pair(24)
        pair.write_block(5, (1, 2))
        told = ("whole", 1, (1, 2))
        for value in anything() + [("whole", True, (1, 2)), ("whole", 1, (True, 2)), ["whole", 1, (1, 2)],
                                   ("whole", 1, [1, 2]), ("whole", 1, (1,) * 53), ("whole", 1), ("Torn",)]:
            if value != ("torn",):
                self.assertIsNone(cuts_for_told(pair, 5, value))
                self.assertIs(are_cuts_for_told(pair, 5, value, ({}, {})), False)
            self.assertIs(are_cuts_for_told(pair, 5, ("blank",), value), value == ({}, {}) and type(value) is tuple)
        every = {(5, part): 0 for part in range(4)}
        for value in ((every, every), (every, {}), ({}, every), ({(5, 0): 0}, {(5, 1): 0, (5, 2): 0, (5, 3): 0})):
            self.assertIs(are_cuts_for_told(pair, 5, told, value), True)
        for value in ([every, every], (every,), (every, every, every), (every, {(5, 0): 1}), ({(5, 0): False}, every),
                      ({(6, 0): 0}, every), (every, None), every, None):
            self.assertIs(are_cuts_for_told(pair, 5, told, value), False)
        for near in (("whole", True, (1, 2)), ("whole", 1, (True, 2)), ("whole", 1, [1, 2]), ["whole", 1, (1, 2)]):
            self.assertIs(are_cuts_for_told(pair, 5, near, (every, every)), False)
            self.assertIsNone(cuts_for_told(pair, 5, near))

    def test_the_first_and_the_last_place(self):
        for size, at in ((24, 0), (24, 23), (240, 0), (240, 239)):
            pair = fresh_pair(size)
            self.same(pair.write_block(at, (1,)), 1)
            told = ("whole", 1, (1,))
            self.same(told_behind_cuts(pair, at), (("blank",), ("torn",), told))
            found = cuts_for_told(pair, at, told)
            self.assertIs(are_cuts_for_told(pair, at, told, found), True)
            self.assertIs(are_cuts_for_told(pair, at, told, ({}, {})), False)
            self.same([pair.read_block(at), pair.unlike(at), pair.mend(at), pair.is_borne(0, at, 0)], [told, False, (), False])
            pair.flush()
            self.same(pair.is_borne(1, at, 3), True)


def told_at_some(pair):
    """All told behind cuts, at each place of a few."""
    return [told_behind_cuts(pair, place) for place in (4, 5, 23)]


class Mending(Case):
    def torn_pair(self, rng):
        """A pair without rows with a block whole at the place 5, copies often being unlike."""
        while True:
            pair = fresh_pair(24)
            pair.write_block(4, (4,))
            pair.write_block(5, some_cells(rng))
            pair.flush()
            pair.write_block(5, some_cells(rng))
            cuts = [{(5, part): 0 for part in range(4) if rng.randrange(3)} for _ in range(2)]
            pair = pair.behind(*cuts)
            lose_borne(rng, pair, 5, rng.randrange(3))
            if pair.read_block(5)[0] == "whole":
                return pair

    def test_cut_anywhere_while_it_is_mended(self):
        rng = Random(29)
        counts = set()
        for _ in range(60):
            pair = self.torn_pair(rng)
            before = [pair.read_block(at) for at in range(24)]
            for stop in (0, 1, 2, 3, 4, None):
                twin = pair.copied()
                twin.stop_after(stop)
                stopped = raised(lambda: (twin.mend(5), twin.flush()))
                self.assertIn(type(stopped), (type(None), Stopped))
                self.same([twin.read_block(at) for at in range(24)], before)
                self.same(told_at_some(twin), [(before[4],), (before[5],), (before[23],)])
            twin = pair.copied()
            self.same(twin.mend(5), tuple(
                which for which in (0, 1)
                if (pair.one, pair.other)[which].read(5) != made_block(5, before[5][1], before[5][2])))
            counts.add((len(twin.one.rows), len(twin.other.rows)))
            state = pair_state(twin)
            self.same(twin.mend(5), ())
            self.assertEqual(state, pair_state(twin))
            twin.flush()
            self.same([twin.unlike(5), twin.mend(5), twin.read_block(5)], [False, (), before[5]])
        self.assertGreater(len(counts), 2)

    def test_one_copy_both_and_none(self):
        pair = fresh_pair(24)
        pair.write_block(5, (1,))
        self.same(pair.mend(5), ())
        pair.flush()
        for which in (0, 1):
            pair.lose_on(which, 5, 2)
            self.same([pair.mend(5), pair.mend(5), pair.last_edition], [(which,), (), 1])
            pair.flush()
        pair.lose_on(0, 5, 2)
        pair.lose_on(1, 5, 3)
        self.same(pair.mend(5), (0, 1))
        for told, at in ((("blank",), 6), (("torn",), 7), (("lost",), 8)):
            if at == 7:
                pair.one.write(7, ((7,), (), (), ()))
            if at == 8:
                pair.one.lose(8, 0)
                pair.other.lose(8, 0)
            before = pair_state(pair)
            self.same(pair.read_block(at), told)
            self.refuses(InvalidOperation, None, lambda: pair.mend(at))
            self.assertEqual(before, pair_state(pair))


class Stopping(Case):
    def run_some(self, pair):
        """Two writes, a flush, a further write on one disk, a mend and a flush: ten writes and flushes."""
        pair.write_block(5, (1,))
        pair.write_block(6, (2,))
        pair.flush()
        pair.lose_on(0, 5, 1)
        pair.lose_on(1, 5, 2)
        pair.mend(5)
        pair.flush()

    def test_so_many_are_let(self):
        states = [pair_state(fresh_pair(24))]
        for many in range(0, 12):
            pair = fresh_pair(24)
            self.assertIsNone(pair.stop_after(many))
            error = raised(lambda: self.run_some(pair))
            self.assertIs(type(error), Stopped if many < 10 else type(None))
            if many <= 10 and many > 0:
                self.assertNotEqual(pair_state(pair), states[-1])
            states.append(pair_state(pair))
            if many < 10:
                for call in (lambda: pair.flush(), lambda: pair.write_block(7, ())):
                    self.refuses(Stopped, None, call)
                self.assertEqual(pair_state(pair), states[-1])
        whole = fresh_pair(24)
        self.run_some(whole)
        self.assertEqual(states[-1], pair_state(whole))
        self.assertEqual(states[-2], states[-1])

    def test_amid_a_write_and_a_flush(self):
        pair = fresh_pair(24)
        pair.stop_after(1)
        self.refuses(Stopped, None, lambda: pair.write_block(5, (1,)))
        self.same([len(pair.one.rows), len(pair.other.rows)], [4, 0])
        self.refuses(Stopped, None, lambda: pair.flush())
        pair.stop_after(1)
        self.refuses(Stopped, None, lambda: pair.flush())
        self.same([pair.one.rows, pair.one.settled[5]], [{}, made_block(5, 1, (1,))])
        pair.stop_after(1)
        self.same(pair.mend(5), (1,))
        self.refuses(Stopped, None, lambda: pair.flush())

    def test_called_again_and_none(self):
        pair = fresh_pair(24)
        pair.stop_after(8)
        for _ in range(4):
            pair.write_block(5, ())
        self.refuses(Stopped, None, lambda: pair.write_block(5, ()))
        pair.stop_after(7)
        for _ in range(3):
            pair.flush()
        self.refuses(Stopped, None, lambda: pair.flush())
        pair.stop_after(0)
        self.refuses(Stopped, None, lambda: pair.flush())
        pair.stop_after(None)
        for _ in range(10):
            pair.flush()
        pair.stop_after(100000)
        pair.flush()
        for value in (-1, 100001, True, False, "1", (), 10 ** 60):
            self.refuses(InvalidNumber, value, lambda: pair.stop_after(value))
        pair.flush()

    def test_a_mend_that_writes_nothing_is_let(self):
        pair = fresh_pair(24)
        pair.write_block(5, ())
        pair.stop_after(0)
        self.same(pair.mend(5), ())
        pair.one.write(6, BLANK)
        pair.one.flush()
        pair.lose_on(0, 7, 0)

    def test_other_pairs_and_disks_are_not_stopped(self):
        pair = fresh_pair(24)
        pair.write_block(5, ())
        pair.stop_after(0)
        for other in (pair.copied(), pair.behind({}, {(5, 0): 0}), Pair(pair.one, pair.other),
                      renewed(fresh_pair(24), 0)):
            other.write_block(7, ())
            other.flush()
        self.refuses(Stopped, None, lambda: pair.flush())

    def test_wrong_arguments_come_first(self):
        pair = fresh_pair(24)
        pair.stop_after(0)
        self.refuses(InvalidNumber, 24, lambda: pair.write_block(24, ()))
        self.refuses(InvalidBlock, None, lambda: pair.write_block(5, []))
        self.refuses(InvalidOperation, None, lambda: pair.mend(5))
        pair.one.write(4, made_block(4, LAST, ()))
        self.refuses(TooMany, LAST, lambda: pair.write_block(5, ()))


class Renewed(Case):
    def test_without_rows_and_with_blocks_that_the_other_disk_tells(self):
        rng = Random(30)
        refused = 0
        for _ in range(150):
            pair = fresh_pair(24)
            for at in (5, 6, 5):
                pair.write_block(at, some_cells(rng))
                if rng.randrange(2):
                    pair.flush()
            if rng.randrange(4):
                cuts = [{sector: rng.randrange(len(row)) for sector, row in disk.rows.items() if rng.randrange(8)}
                        for disk in (pair.one, pair.other)]
                pair = pair.behind(*cuts)
                lose_borne(rng, pair, 5, rng.randrange(3))
            before = pair_state(pair)
            for which in (0, 1):
                kept = pair.other if which == 0 else pair.one
                bad = not pair.is_flushed or any(
                    pair.read_block(at)[0] == "whole" and told_block(at, kept.read(at)) != pair.read_block(at)
                    for at in range(24))
                if bad:
                    refused += 1
                    self.refuses(InvalidOperation, None, lambda: renewed(pair, which))
                else:
                    made = renewed(pair, which)
                    disks_made = (made.one, made.other)
                    self.assertTrue(disks_made[which] == Disk(fresh_picture(24)))
                    self.assertTrue(disks_made[1 - which] == kept)
                    for at in range(24):
                        if pair.read_block(at)[0] == "whole":
                            self.same(made.read_block(at), pair.read_block(at))
                    disks_made[1 - which].write(3, BLANK)
            self.assertEqual(before, pair_state(pair))
        self.assertGreater(refused, 20)

    def test_an_elder_block_that_the_other_disk_tells(self):
        pair = fresh_pair(24)
        pair.write_block(5, (1,))
        pair.flush()
        pair.one.write(5, made_block(5, 2, ()))
        self.refuses(InvalidOperation, None, lambda: renewed(pair, 1))
        pair.one.flush()
        self.same(whole_editions(5, (pair.one.read(5), pair.other.read(5))), (1, 2))
        self.refuses(InvalidOperation, None, lambda: renewed(pair, 0))
        self.same(renewed(pair, 1).read_block(5), ("whole", 2, ()))


class WrongPairs(WrongCase):
    def test_wrong_inputs(self):
        held = fresh_pair(24)
        held.write_block(5, (1,))
        held.flush()
        held.write_block(6, (1,))
        held.lose_on(0, 7, 1)
        state = lambda: pair_state(held)
        disk = Arg(Disk(fresh_picture(24)), lambda value: isinstance(value, Disk), InvalidDisk)
        pair = Arg(held, lambda value: isinstance(value, Pair), InvalidDisk)
        which, at, part = number(1, 0, 1), number(5, 0, 23), number(3, 0, 3)
        cells = Arg((1,), lambda value: type(value) is tuple and len(value) <= 52 and all(
            type(cell) is int and 0 <= cell <= LAST for cell in value), InvalidBlock, [(1,) * 53, (-1,), [1]])
        cut = Arg({(6, 0): 0}, lambda value: value in ({}, {(6, 0): 0}), InvalidCut)
        free = Arg(("torn",), lambda value: True, None)
        self.wrong_calls(fresh_pair, [number(24, 24, 240)])
        self.wrong_calls(Pair, [disk, disk])
        self.wrong_calls(held.read_block, [at], state)
        self.wrong_calls(held.unlike, [at], state)
        self.wrong_calls(held.write_block, [at, cells], state)
        self.wrong_calls(held.mend, [at], state)
        self.wrong_calls(held.is_borne, [which, at, part], state)
        self.wrong_calls(held.lose_on, [which, at, part], state)
        self.wrong_calls(held.behind, [cut, cut], state)
        self.wrong_calls(renewed, [pair, which], state)
        self.wrong_calls(told_behind_cuts, [pair, at], state)
        self.wrong_calls(cuts_for_told, [pair, at, free], state)
        self.wrong_calls(are_cuts_for_told, [pair, at, free, free], state)

    def test_errors_with_then_come_last(self):
        pair = fresh_pair(24)
        for _ in range(13):
            pair.write_block(5, ())
        self.refuses(InvalidNumber, 2, lambda: renewed(pair, 2))
        self.refuses(InvalidNumber, True, lambda: told_behind_cuts(pair, True))
        self.refuses(InvalidNumber, 24, lambda: cuts_for_told(pair, 24, None))
        self.refuses(InvalidNumber, 4, lambda: pair.lose_on(0, 5, 4))
        self.refuses(InvalidDisk, None, lambda: Pair(Disk(fresh_picture(24)), fresh_picture(25)))

    def test_judges_take_everything(self):
        pair = fresh_pair(24)
        for value in anything():
            self.assertIs(type(are_cuts_for_told(pair, 5, value, value)), bool)
