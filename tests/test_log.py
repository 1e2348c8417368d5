from itertools import combinations
from random import Random

from helpers import Arg, Case, WrongCase, anything, is_int, number, pair_state, raised
from everycut.errors import InvalidBlock, InvalidNumber, InvalidOperation, Refused, Stopped, TooMany
from everycut.keep import log as log_module
from everycut.keep.log import (
    Log, cut_for_records, is_cut_for_records, is_record, read_log, record_parts, taken, whole_records)
from everycut.outside import pairs
from everycut.outside.disks import is_cut
from everycut.outside.pairs import fresh_pair
from everycut.plain.coding import deed_cells, deed_told
from everycut.plain.deeds import is_deed
from everycut.plain.trees import Tree
from everycut.plain.waits import Doings, lower_lots
from pair_helpers import lose_some, pair_arg
from plain_helpers import done_deeds

EXAMPLES = '''
>>> P = fresh_pair(24)
>>> L = Log(P, 6, 1)
>>> [L.put(1, (), ("folder", ("a",))), L.put(2, (1,), ("make", ("a", "f"))), L.put(3, (), ("make", ("b",))), L.left, str(L)]
[(2,), (3,), (4,), 3, 'log of turn 1: 3 records, 3 blocks left']
>>> [read_log(P, 6, 1) == L.records, read_log(P, 6, 2), taken({2: ((1,), ("make", ("a", "f"))), 3: ((), ("make", ("b",)))}), taken(L.records)]
[True, {}, (3,), (1, 2, 3)]
>>> [is_cut_for_records(L, (), ({}, {})), is_cut_for_records(L, (3,), ({(4, 0): 0, (4, 1): 0}, {(4, 2): 0, (4, 3): 0})), is_cut_for_records(L, (3,), ({(4, 0): 0}, {(4, 2): 0}))]
[True, True, False]
>>> L.sync()
>>> [L.synced, record_parts((1, 3, (), ("make", ("b",))))[0][:5]]
[(1, 2, 3), (1, 3, 0, 1, 0)]
>>> cut_for_records(L, (1, 2))
raises InvalidOperation
'''

LAST = 10 ** 18 - 1
BILLION = 10 ** 12
EIGHT = ("a", "bb", "ccc", "dddd", "eeeee", "ffffff", "ggggggg", "zzzzzzzz")
WRITE = ("write", EIGHT, 9, tuple(range(32)))
MAKE = ("make", ("a",))


def slow_whole(turn, told):
    """The whole records of a turn, straight as [12.1] and [12.2] say."""
    found = {}
    for number_ in sorted({cells[1] for cells in told if len(cells) > 1 and cells[0] == turn}):
        parts = [cells for cells in told if cells[:2] == (turn, number_)]
        if any(len(cells) < 5 or cells[3] != len(parts) for cells in parts):
            continue
        parts = sorted(parts, key=lambda cells: cells[2])
        stretches = [cells[4:] for cells in parts]
        if [cells[2] for cells in parts] != list(range(len(parts))) or any(len(one) != 48 for one in stretches[:-1]):
            continue
        body = sum(stretches, ())
        waits, deed = body[1:1 + body[0]], deed_told(body[1 + body[0]:])
        if len(stretches[-1]) > 48 or len(waits) != body[0] or not 1 <= number_ <= BILLION:
            continue
        if deed is None or len(waits) > 39 or list(waits) != sorted(set(waits)) or any(not 0 < one < number_ for one in waits):
            continue
        found[number_] = (waits, deed)
    return found


def deed_of(many):
    """A deed with so many cells, from 6 on."""
    deed = ("write", ("a",), 0, (1,) * min(many - 5, 32))
    if len(deed_cells(deed)) == many:
        return deed
    parts = []
    left = many - 2
    while left:
        size = left if left <= 37 else (37 if left - 37 >= 6 else left - 6)
        parts.append(("write", ("a",), 0, (1,) * (size - 5)))
        left -= size
    return ("all", tuple(parts))


class Records(Case):
    def test_examples(self):
        self.examples(EXAMPLES, {**vars(log_module), **vars(pairs)})

    def test_constants(self):
        self.same([log_module.FIRST_LOG, log_module.PART_MARKS, log_module.PART_BODY], [2, 4, 48])

    def test_are_records(self):
        for record, wanted in (((1, 1, (), MAKE), True), ((LAST, BILLION, tuple(range(1, 40)), WRITE), True), ((0, 1, (), MAKE), False),
                               ((LAST + 1, 1, (), MAKE), False), ((1, 0, (), MAKE), False), ((1, BILLION + 1, (), MAKE), False),
                               ((True, 1, (), MAKE), False), ((1, True, (), MAKE), False), ((1, 2, (1,), MAKE), True),
                               ((1, 2, (2,), MAKE), False), ((1, 2, (0,), MAKE), False), ((1, 2, (True,), MAKE), False),
                               ((1, 5, (1, 3, 4), MAKE), True), ((1, 5, (3, 1), MAKE), False), ((1, 5, (3, 3), MAKE), False),
                               ((1, 50, tuple(range(1, 41)), MAKE), False), ((1, 50, tuple(range(1, 40)), MAKE), True),
                               ((1, 2, [1], MAKE), False), ((1, 2, (1,), ("make", ())), False), ((1, 2, (1,), None), False),
                               ((1, 2, (1,)), False), ((1, 2, (1,), MAKE, 0), False), ([1, 2, (1,), MAKE], False),
                               ((1, 2, ("1",), MAKE), False), ((1, 2, None, MAKE), False), ((1, 1, (), ("order",)), True)):
            self.assertIs(is_record(record), wanted, record)
            if not wanted:
                self.refuses(InvalidOperation, None, lambda: record_parts(record))
        for value in anything():
            self.assertIs(is_record(value), False)
            self.refuses(InvalidOperation, None, lambda: record_parts(value))

    def test_parts(self):
        for cells, many in ((6, 1), (47, 1), (48, 2), (95, 2), (96, 3), (143, 3), (144, 4)):
            deed = deed_of(cells)
            self.same(len(deed_cells(deed)), cells)
            parts = record_parts((7, 9, (), deed))
            self.same([part[:4] for part in parts], [(7, 9, at, many) for at in range(many)])
            self.same(sum([part[4:] for part in parts], ()), (0,) + deed_cells(deed))
            self.same([len(part) for part in parts[:-1]], [52] * (many - 1))
            self.assertTrue(5 <= len(parts[-1]) <= 52)
            self.same(whole_records(7, parts), {9: ((), deed)})
        # With waits the same bodies come of other deeds.
        for waits, cells, many in (((1, 2, 3), 44, 1), ((1, 2, 3, 4), 44, 2), (tuple(range(1, 40)), 8, 1), (tuple(range(1, 40)), 9, 2)):
            deed = deed_of(cells)
            parts = record_parts((7, 90, waits, deed))
            self.same([len(parts), sum([part[4:] for part in parts], ())], [many, (len(waits),) + waits + deed_cells(deed)])
        greatest = ("all", (WRITE,) * 6)
        parts = record_parts((LAST, BILLION, tuple(range(1, 40)), greatest))
        self.same([len(parts), len(parts[-1])], [7, 4 + 306 - 288])
        self.same(whole_records(LAST, parts[::-1]), {BILLION: (tuple(range(1, 40)), greatest)})

    def test_whole(self):
        long = record_parts((3, 9, (4,), deed_of(120)))
        short = record_parts((3, 10, (), MAKE))
        other = record_parts((4, 9, (4,), deed_of(120)))
        both = {9: ((4,), deed_of(120)), 10: ((), MAKE)}
        nine, ten = {9: both[9]}, {10: both[10]}
        self.same([len(long), len(short)], [3, 1])
        for told, wanted in ((long + short, both), (short + long[::-1], both), (long[1:] + short, ten), (long[:2] + short, ten),
                             (long + long[:1] + short, ten), (long + short + short, nine), (long + other + short, both),
                             (long + ((3, 9),) + short, ten), (long + ((3, 9, 7, 3, 1),), {}), (long + ((3, 10),), nine),
                             (long + ((3,), (), (9, 3)), nine), ((), {}), (long[:1] + long[:1] + long[:1], {}), (other, {}),
                             (long + ((3, 11, 0, 1, 0),) + short, both), (long + ((3, 0, 0, 1, 0, 11),), nine),
                             (long + ((3, BILLION + 1, 0, 1, 0, 11),), nine), (long + ((3, BILLION, 0, 1, 0, 11),),
                                                                             {**nine, BILLION: ((), ("order",))})):
            self.same(whole_records(3, told), wanted)
            self.same(slow_whole(3, told), wanted)
        self.same(whole_records(4, long + other), {9: ((4,), deed_of(120))})
        for turn in (1, LAST):
            self.same(whole_records(turn, short + record_parts((turn, 10, (9,), MAKE))), {10: ((9,), MAKE)})

    def test_each_cell_changed(self):
        told = 0
        for record in ((3, 9, (4, 7), deed_of(60)), (3, 9, (), MAKE), (3, 9, (1,), ("all", (MAKE, ("drop", ("a",)))))):
            parts = record_parts(record)
            for at, part in enumerate(parts):
                for index in range(len(part)):
                    for new in (0, 1, 2, 3, 4, 9, 10, 48, LAST, part[index] + 1):
                        changed = parts[:at] + (part[:index] + (new,) + part[index + 1:],) + parts[at + 1:]
                        wanted = slow_whole(3, changed)
                        told += len(wanted)
                        self.same(whole_records(3, changed), wanted)
                    for changed in (part[:index], part[:index] + part[index + 1:], part + (0,)):
                        if len(changed) <= 52:
                            changed = parts[:at] + (changed,) + parts[at + 1:]
                            self.same(whole_records(3, changed), slow_whole(3, changed))
        self.assertGreater(told, 100)
        # A stretch that is cut elsewhere is no part.
        first, last = record_parts((3, 9, (), deed_of(60)))
        self.same(whole_records(3, (first[:-1], last[:4] + first[-1:] + last[4:])), {})
        self.same(whole_records(3, (first[:2] + (0, 3) + first[4:], last[:2] + (1, 3) + last[4:], (3, 9, 2, 3))), {})

    def test_drawn(self):
        rng = Random(120)
        for _ in range(300):
            told = []
            for _ in range(rng.randrange(1, 6)):
                parts = record_parts((rng.choice((3, 3, 4)), rng.randrange(2, 5), rng.choice(((), (1,))), deed_of(rng.choice((6, 50, 100)))))
                told.extend(rng.sample(parts, rng.choice((len(parts), len(parts), rng.randrange(len(parts) + 1)))))
            rng.shuffle(told)
            told = tuple(told)
            self.same(whole_records(3, told), slow_whole(3, told))

    def test_taken(self):
        rng = Random(121)
        for _ in range(150):
            numbers = sorted(rng.sample(range(1, 12), rng.randrange(8)))
            records = {one: (tuple(sorted(rng.sample(range(1, one), min(one - 1, rng.choice((0, 0, 1, 2)))))), MAKE) for one in numbers}
            lots = [lot for many in range(len(numbers) + 1) for lot in combinations(numbers, many)
                    if all(set(records[one][0]) <= set(lot) for one in lot)]
            self.same(taken(records), max(lots, key=len))
            turned = {one: records[one] for one in rng.sample(numbers, len(numbers))}
            self.same(taken(turned), max(lots, key=len))
        self.same([taken({}), taken({3: ((2,), MAKE), 4: ((), MAKE), 5: ((3,), MAKE), 6: ((4,), MAKE)})], [(), (4, 6)])
        self.same(taken({one: ((), MAKE) for one in range(1, 41)}), tuple(range(1, 41)))


def some_log(rng, many, sizes=(6, 6, 50, 100), size=None):
    """A log with some records, of which some are synced, on a pair with an elder turn's records below."""
    pair = fresh_pair(rng.choice((24, 50)))
    size = size or rng.choice((4, 6, 12, 20))
    if rng.randrange(2):
        elder = Log(pair, size, 4)
        put_some(rng, elder, many, sizes)
        elder.sync()
    lose_some(rng, pair, 5, range(2, 2 + size))
    log = Log(pair, size, 5)
    put_some(rng, log, many, sizes)
    return log


def put_some(rng, log, many, sizes):
    at = 0
    for _ in range(many):
        at += rng.randrange(1, 3)
        deed = deed_of(rng.choice(sizes))
        if len(record_parts((1, at, (), deed))) <= log.left:
            log.put(at, tuple(one for one in log.records if rng.randrange(3) == 0), deed)
        if rng.randrange(4) == 0:
            log.sync()


class Logs(Case):
    def test_one_by_one(self):
        for size in (4, 5, 22):
            pair = fresh_pair(24)
            log = Log(pair, size, 3)
            self.same([len(log), log.left, log.records, log.synced, log.size, log.turns, str(log), pair.is_flushed, pair.last_edition],
                      [0, size, {}, (), size, 3, f"log of turn 3: 0 records, {size} blocks left", True, 0])
            for at in range(size):
                self.same(log.put(at + 1, (), MAKE), (2 + at,))
                self.same([len(log), log.left, pair.read_block(2 + at)[2]], [at + 1, size - at - 1, (3, at + 1, 0, 1, 0) + deed_cells(MAKE)])
            before = (pair_state(pair), log.records, log.left)
            self.refuses(Refused, ("log", 1), lambda: log.put(size + 1, (), MAKE))
            self.refuses(Refused, ("log", 2), lambda: log.put(size + 1, (1,), deed_of(60)))
            self.assertEqual((pair_state(pair), log.records, log.left), before)
            self.same(str(log), f"log of turn 3: {size} records, 0 blocks left")
            self.assertTrue(log.pair is pair)

    def test_records_of_several_blocks(self):
        log = Log(fresh_pair(24), 6, 3)
        self.same([log.put(2, (1,), deed_of(100)), log.put(5, (2,), MAKE), log.left], [(2, 3, 4), (5,), 2])
        self.refuses(Refused, ("log", 3), lambda: log.put(6, (), deed_of(100)))
        self.same([log.put(6, (), deed_of(60)), log.left, list(log.records)], [(6, 7), 0, [2, 5, 6]])
        self.same(log.records, read_log(log.pair, 6, 3))
        small = Log(fresh_pair(24), 4, 3)
        self.refuses(Refused, ("log", 6), lambda: small.put(BILLION, (), ("all", (WRITE,) * 6)))

    def test_numbers(self):
        log = Log(fresh_pair(24), 6, 3)
        log.put(4, (), MAKE)
        before = (pair_state(log.pair), log.records)
        for at in (4, 3, 1):
            self.refuses(InvalidNumber, at, lambda: log.put(at, (), MAKE))
            self.refuses(InvalidNumber, at, lambda: log.put(at, (), ("all", (WRITE,) * 6)))
        for at, waits, deed in ((0, (), MAKE), (BILLION + 1, (), MAKE), (True, (), MAKE), (5, (5,), MAKE), (5, (2, 1), MAKE), (5, [], MAKE),
                                (5, (), None), (3, (), None), (5, (), ("make", ())), (None, None, None), (5, tuple(range(1, 41)), MAKE)):
            self.refuses(InvalidOperation, None, lambda: log.put(at, waits, deed))
        self.assertEqual((pair_state(log.pair), log.records), before)
        self.same(log.put(BILLION, (1, 3), MAKE), (3,))

    def test_sync(self):
        log = Log(fresh_pair(24), 6, 3)
        log.put(1, (), MAKE)
        self.same([log.synced, log.pair.is_flushed], [(), False])
        log.sync()
        self.same([log.synced, log.pair.is_flushed], [(1,), True])
        log.put(3, (), MAKE)
        self.same(log.synced, (1,))
        log.sync()
        log.sync()
        self.same(log.synced, (1, 3))
        log.put(4, (), MAKE)
        log.pair.stop_after(1)
        self.refuses(Stopped, None, log.sync)
        self.same(log.synced, (1, 3))
        log.pair.stop_after(None)
        log.sync()
        self.same(log.synced, (1, 3, 4))

    def test_stopped_amid_a_record(self):
        log = Log(fresh_pair(24), 9, 3)
        log.put(1, (), MAKE)
        log.pair.stop_after(3)
        self.refuses(Stopped, None, lambda: log.put(2, (), deed_of(100)))
        log.pair.stop_after(None)
        self.same(read_log(log.pair, 9, 3), {1: ((), MAKE)})
        log.put(3, (), WRITE)
        self.same(read_log(log.pair, 9, 3), {1: ((), MAKE), 3: ((), WRITE)})

    def test_no_greater_edition(self):
        pair = fresh_pair(24)
        for disk in (pair.one, pair.other):
            disk.write(9, ((9, LAST - 1, 0), (), (), ()))
        log = Log(pair, 4, 3)
        before = pair_state(pair)
        self.refuses(TooMany, LAST, lambda: log.put(1, (), deed_of(60)))
        self.assertEqual((pair_state(pair), log.left), (before, 4))
        self.same(log.put(1, (), MAKE), (2,))

    def test_read_logs(self):
        pair = fresh_pair(24)
        log = Log(pair, 6, 3)
        log.put(1, (), MAKE)
        log.put(2, (1,), deed_of(60))
        self.same([read_log(pair, 6, 3), read_log(pair, 4, 3), read_log(pair, 6, 4)], [log.records, log.records, {}])
        later = Log(pair, 6, 4)
        later.put(1, (), WRITE)
        self.same([read_log(pair, 6, 3), read_log(pair, 6, 4)], [{2: ((1,), deed_of(60))}, {1: ((), WRITE)}])
        # A record is read in the blocks of the log alone.
        pair = fresh_pair(24)
        log = Log(pair, 22, 3)
        for at in range(5):
            log.put(at + 1, (), deed_of(60))
        self.same([list(read_log(pair, size, 3)) for size in (4, 9, 10, 22)], [[1, 2], [1, 2, 3, 4], [1, 2, 3, 4, 5], [1, 2, 3, 4, 5]])
        pair.write_block(1, record_parts((3, 9, (), MAKE))[0])
        pair.write_block(12, (3, 9))
        self.same(9 in read_log(pair, 22, 3), False)


class Cuts(Case):
    def random_behind(self, rng, log):
        """The pair behind any cuts, with borne losses, and these cuts."""
        cuts = [{sector: rng.randrange(len(row)) for sector, row in disk.rows.items() if rng.randrange(5) < share}
                for disk, share in ((log.pair.one, rng.randrange(6)), (log.pair.other, rng.randrange(6)))]
        behind = log.pair.behind(cuts[0], cuts[1])
        lose_some(rng, behind, 6, range(2, 2 + log.size))
        return behind, (cuts[0], cuts[1])

    def test_behind_all_cuts(self):
        rng = Random(122)
        partial = 0
        for _ in range(60):
            log = some_log(rng, rng.randrange(1, 8))
            records = log.records
            self.same(read_log(log.pair, log.size, 5), records)
            for _ in range(12):
                behind, cuts = self.random_behind(rng, log)
                read = read_log(behind, log.size, 5)
                self.assertTrue(all(records[one] == put for one, put in read.items()))
                self.assertTrue(set(log.synced) <= set(read))
                partial += set(log.synced) < set(read) and len(read) < len(records)
                for numbers in (tuple(read), tuple(records), log.synced):
                    self.assertIs(is_cut_for_records(log, numbers, cuts), numbers == tuple(read))
        self.assertGreater(partial, 50)

    def test_all_cuts_of_one_record(self):
        for is_elder in (False, True):
            pair = fresh_pair(24)
            if is_elder:
                elder = Log(pair, 4, 1)
                elder.put(1, (), MAKE)
                elder.put(2, (), WRITE)
                elder.sync()
            log = Log(pair, 4, 2)
            log.put(1, (), ("order",))
            log.sync()
            log.put(2, (1,), MAKE)
            sectors = [(which, (3, part)) for which in (0, 1) for part in range(4)]
            many = 0
            for number_ in range(256):
                chosen = [sector for at, sector in enumerate(sectors) if number_ >> at & 1]
                cuts = tuple({sector: 0 for which, sector in chosen if which == side} for side in (0, 1))
                is_whole = len({sector for _, sector in chosen}) == 4
                many += is_whole
                read = read_log(pair.behind(cuts[0], cuts[1]), 4, 2)
                self.same(read, {1: ((), ("order",)), 2: ((1,), MAKE)} if is_whole else {1: ((), ("order",))})
                self.assertIs(is_cut_for_records(log, (1, 2), cuts), is_whole)
                self.assertIs(is_cut_for_records(log, (1,), cuts), not is_whole)
            self.same(many, 81)

    def test_each_lot_can_come(self):
        rng = Random(123)
        tried = 0
        for _ in range(40):
            log = some_log(rng, rng.randrange(1, 7))
            lose_some(rng, log.pair, 4, range(2, 2 + log.size))
            state = pair_state(log.pair)
            free = [one for one in log.records if one not in log.synced]
            for many in range(len(free) + 1):
                for some in combinations(free, many):
                    numbers = tuple(sorted(log.synced + some))
                    cuts = cut_for_records(log, numbers)
                    self.assertTrue(is_cut(log.pair.one, cuts[0]) and is_cut(log.pair.other, cuts[1]))
                    self.same([list(cut) for cut in cuts], [sorted(cut) for cut in cuts])
                    self.assertIs(is_cut_for_records(log, numbers, cuts), True)
                    behind = log.pair.behind(cuts[0], cuts[1])
                    lose_some(rng, behind, 6, range(2, 2 + log.size))
                    self.same(read_log(behind, log.size, 5), {one: log.records[one] for one in numbers})
                    other = tuple(one for one in log.records if one not in numbers or one in log.synced)
                    if other != numbers:
                        self.assertIs(is_cut_for_records(log, other, cuts), False)
                    tried += 1
            self.assertEqual(pair_state(log.pair), state)
        self.assertGreater(tried, 200)

    def test_lower_lots_are_taken(self):
        rng = Random(124)
        unlike = 0
        for round_ in range(30):
            found, _, _ = done_deeds(rng, rng.randrange(1, 9), "abc", bars=round_ % 2)
            doings, log = Doings(Tree()), Log(fresh_pair(50), 20, 5)
            for number_, deed, _ in found:
                waits = doings.add(number_, deed)
                if len(record_parts((5, number_, waits, deed))) > log.left:
                    break
                log.put(number_, waits, deed)
                if rng.randrange(5) == 0:
                    log.sync()
            lots = lower_lots({one: put[0] for one, put in log.records.items()})
            lots = [lot for lot in lots if set(log.synced) <= set(lot)]
            for lot in rng.sample(lots, min(8, len(lots))):
                cuts = cut_for_records(log, lot)
                self.same(taken(read_log(log.pair.behind(cuts[0], cuts[1]), 20, 5)), lot)
            for _ in range(12):
                behind, _ = self.random_behind(rng, log)
                read = read_log(behind, 20, 5)
                unlike += taken(read) != tuple(read)
                self.assertIn(taken(read), lots)
        self.assertGreater(unlike, 10)

    def test_cuts_of_any_sectors(self):
        log = Log(fresh_pair(24), 6, 1)
        log.put(1, (), MAKE)
        log.put(2, (), deed_of(60))
        log.pair.write_block(9, (7,))
        first, long = {(2, part): 0 for part in range(4)}, {(at, part): 0 for at in (3, 4) for part in range(4)}
        for cuts, numbers in (((first, {}), (1,)), (({}, first), (1,)), (({**first, (9, 0): 0}, {(9, 1): 0}), (1,)), (({}, {}), ()),
                              (({(2, 0): 0, (2, 1): 0}, {(2, 2): 0, (2, 3): 0}), (1,)), (({(2, 0): 0}, {(2, 1): 0}), ()),
                              ((long, {}), (2,)), (({sector: 0 for sector in long if sector[0] == 3}, {}), ()),
                              ((first, long), (1, 2)), (({**first, (3, 0): 0}, {(4, 2): 0}), (1,))):
            for some in ((), (1,), (2,), (1, 2)):
                self.assertIs(is_cut_for_records(log, some, cuts), some == numbers)
        for wrong in anything() + [({(2, 0): 1}, {}), ({(5, 0): 0}, {}), ({}, {}, {}), ({},), [{}, {}], ({}, None), (None, {})]:
            if type(wrong) is not tuple or wrong != ({}, {}):
                self.assertIs(is_cut_for_records(log, (), wrong), False)

    def test_not_true(self):
        log = Log(fresh_pair(24), 6, 1)
        for at in range(1, 5):
            log.put(at, (), MAKE)
        cuts = cut_for_records(log, (3,))
        self.same(list(read_log(log.pair.behind(cuts[0], cuts[1]), 6, 1)), [3])


class Wrong(WrongCase):
    def test_logs(self):
        pair = fresh_pair(24)
        args = [pair_arg(pair), number(6, 4, 22), number(3, 1, LAST)]
        self.wrong_calls(Log, args, lambda: pair_state(pair))
        self.wrong_calls(read_log, args, lambda: pair_state(pair))
        large = [pair_arg(fresh_pair(50)), number(40, 4, 40), number(3, 1, LAST)]
        self.wrong_calls(Log, large)
        self.wrong_calls(read_log, large)
        self.same([Log(fresh_pair(24), 22, LAST).left, Log(fresh_pair(50), 40, 1).left], [22, 40])

    def test_told(self):
        told = Arg((), lambda value: type(value) is tuple and len(value) <= 40 and all(
            type(cells) is tuple and len(cells) <= 52 and all(is_int(cell, 0, LAST) for cell in cells) for cells in value), InvalidOperation,
            [((),) * 41, ((0,) * 53,), ((True,),), ((-1,),), ([],), [()], (1,), (None,), ((LAST + 1,),), (("a",),), {(): ()}])
        self.wrong_calls(whole_records, [number(3, 1, LAST), told])
        self.same(whole_records(3, ((0,) * 52,) * 40), {})

    def test_records_to_take(self):
        good = {3: ((1, 2), MAKE)}
        wrong = [{3: ((3,), MAKE)}, {3: ((2, 1), MAKE)}, {0: ((), MAKE)}, {True: ((), MAKE)}, {BILLION + 1: ((), MAKE)}, {3: ((), None)},
                 {3: ((),)}, {3: ((), MAKE, 1)}, {3: [(), MAKE]}, {3: ([], MAKE)}, {3: None}, {"a": ((), MAKE)}, {None: ((), MAKE)},
                 {one: ((), MAKE) for one in range(1, 42)}, [(3, ((), MAKE))], {(3,): ((), MAKE)}, {50: (tuple(range(1, 41)), MAKE)}]
        self.wrong_calls(taken, [Arg(good, lambda value: type(value) is dict and value == {}, InvalidOperation, wrong)])
        self.same([taken({BILLION: ((), MAKE)}), taken({})], [(BILLION,), ()])

    def test_cuts(self):
        log = Log(fresh_pair(24), 8, 1)
        for at in (1, 2, 4, 5):
            log.put(at, (), MAKE)
            if at == 2:
                log.sync()
        logs = Arg(log, lambda value: isinstance(value, Log), InvalidOperation, [log.pair, log.records])
        numbers = Arg((1, 2, 5), lambda value: value in [(1, 2), (1, 2, 4), (1, 2, 5), (1, 2, 4, 5)] and type(value) is tuple,
                      InvalidOperation, [(), (1,), (2,), (4,), (1, 4), (2, 1), (1, 2, 3), (1, 2, 6), (1, 2, 5, 4), (1, 2, 2), [1, 2], (1, 2, "4"),
                                         {1: 2}, 1, (True, 2), (1, 2, 4, 5, 5)])
        self.assertFalse(numbers.is_good((True,)))
        numbers.is_good = lambda value: type(value) is tuple and value in [(1, 2), (1, 2, 4)] and type(value[0]) is int
        state = lambda: (pair_state(log.pair), log.records, log.synced)
        self.wrong_calls(cut_for_records, [logs, numbers], state)
        self.wrong_calls(lambda one, other: is_cut_for_records(one, other, ({}, {})), [logs, numbers], state)

    def test_deeds_are_judged(self):
        for value in anything():
            self.assertIs(is_record((1, 1, (), value)), is_deed(value))
        self.refuses(InvalidBlock, None, lambda: fresh_pair(24).write_block(2, (0,) * 53))

    def test_nothing_is_shared(self):
        log = Log(fresh_pair(24), 6, 1)
        log.put(1, (), MAKE)
        log.records.clear()
        read_log(log.pair, 6, 1).clear()
        cut_for_records(log, (1,))[0].clear()
        self.same([log.records, len(cut_for_records(log, (1,))[0])], [{1: ((), MAKE)}, 4])
        self.assertIsInstance(raised(lambda: iter(log)), TypeError)
