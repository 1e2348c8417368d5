from itertools import product
from random import Random

from helpers import Arg, Case, WrongCase, anything, is_int, number, pair_state, reference_told
from everycut.base.names import name_cell
from everycut.errors import InvalidBlock, InvalidDisk, InvalidNumber, InvalidOperation, Refused, Stopped, TooMany
from everycut.keep import heads
from everycut.keep.heads import (
    are_cuts_for_head, cuts_for_head, found_head, head_cells, head_of, heads_that_can_come, is_head, next_head, told_head,
    write_head)
from everycut.outside import pairs
from everycut.outside.disks import is_cut
from everycut.outside.pairs import Pair, fresh_pair
from pair_helpers import cuts_here, lose_some, pair_arg

EXAMPLES = '''
>>> ELDER = (1, 4, 1, 0, ())
>>> P = fresh_pair(24)
>>> [is_head(24, ELDER), is_head(24, (1, 7, 1, 0, ())), is_head(24, (1, 4, 1, 5, ())), head_cells(24, (2, 4, 3, 9, (("a", 8),))), head_of(24, (2, 4, 3, 9, 1, 10460353203, 8)), head_of(24, (2, 4, 3, 9, 1, 27, 8))]
[True, False, False, (2, 4, 3, 9, 1, 10460353203, 8), (2, 4, 3, 9, (('a', 8),)), None]
>>> [found_head(P), write_head(P, ELDER), found_head(P), heads_that_can_come(P)]
[None, 1, (1, 4, 1, 0, ()), (None, (1, 4, 1, 0, ()))]
>>> P.flush()
>>> NEW = next_head(24, ELDER, 3, 9, ())
>>> [write_head(P, NEW), heads_that_can_come(P), told_head(P, 1), cuts_for_head(P, None)]
[2, ((1, 4, 1, 0, ()), (2, 4, 3, 9, ())), (1, 4, 1, 0, ()), None]
>>> HALVES = ({(0, 0): 0, (0, 1): 0}, {(0, 2): 0, (0, 3): 0})
>>> [are_cuts_for_head(P, NEW, HALVES), are_cuts_for_head(P, ELDER, (HALVES[0], {})), are_cuts_for_head(P, NEW, (HALVES[0], {}))]
[True, True, False]
>>> write_head(P, (4, 4, 5, 9, ()))
raises Refused(('seat', 2))
'''

LAST = 10 ** 18 - 1
NAMES = ("a", "b", "c", "d", "e", "zzzzzzzz")


def slow_is_head(size, value):
    """Whether a value is a head, straight as [11.1] says."""
    if type(value) is not tuple or len(value) != 5 or type(value[4]) is not tuple or len(value[4]) > 6:
        return False
    turn, log, number_, root, shots = value
    if not (is_int(turn, 1, LAST) and is_int(number_, 1, LAST) and is_int(log, 4, 40) and size - 2 - log >= 16):
        return False
    names = []
    for shot in shots:
        if type(shot) is not tuple or len(shot) != 2 or type(shot[0]) is not str:
            return False
        if not 1 <= len(shot[0]) <= 8 or shot[0].strip("abcdefghijklmnopqrstuvwxyz"):
            return False
        names.append(shot[0])
    roots = [root] + [shot[1] for shot in shots]
    return names == sorted(set(names)) and all(is_int(one, 2 + log, size - 1) or is_int(one, 0, 0) for one in roots)


def slow_cells(head):
    return head[:4] + (len(head[4]),) + tuple(cell for name, root in head[4] for cell in (name_cell(name), root))


def slow_told(pair, at, pool):
    """The head of a pool that is told at a place, from the blocks that are read there."""
    return slow_meaning(at, reference_told(at, (pair.one.read(at), pair.other.read(at))), pool)


def slow_meaning(at, told, pool):
    for head in pool:
        if told[0] == "whole" and told[2] == slow_cells(head) and head[0] % 2 == at:
            return head
    return None


def some_head(rng, size, turn=None):
    log = rng.randrange(4, min(40, size - 18) + 1)
    roots = [0] + list(range(2 + log, size))
    names = sorted(rng.sample(NAMES, rng.choice((0, 0, 1, 2, 6))))
    turn = rng.randrange(1, 5) if turn is None else turn
    return (turn, log, rng.randrange(1, 4), rng.choice(roots), tuple((name, rng.choice(roots)) for name in names))


def trial(pair, pool):
    """The dict from all that can be found behind cuts, heads of a pool or None, to a pair of cuts."""
    told = []
    for at in (0, 1):
        there = {}
        for (one, first), (other, last) in product(list(cuts_here(pair.one, at)), list(cuts_here(pair.other, at))):
            there.setdefault((first, last), (one, other))
        told.append({})
        for (first, last), cuts in there.items():
            told[at].setdefault(slow_meaning(at, reference_told(at, (first, last)), pool), cuts)
    found = {}
    for first, last in product(told[0], told[1]):
        both = [head for head in (first, last) if head is not None]
        head = max(both, key=lambda head: head[0]) if both else None
        cuts = ({**told[0][first][0], **told[1][last][0]}, {**told[0][first][1], **told[1][last][1]})
        found.setdefault(head, cuts)
    return found


class Heads(Case):
    def test_examples(self):
        self.examples(EXAMPLES, {**vars(heads), **vars(pairs)})

    def test_constants(self):
        self.same([heads.LEAST_LOG, heads.MAX_LOG, heads.LEAST_SHELF, heads.MAX_SHOTS], [4, 40, 16, 6])

    def judged(self, size, value, wanted):
        self.assertIs(is_head(size, value), wanted, (size, value))
        self.assertIs(slow_is_head(size, value), wanted, (size, value))
        if wanted:
            self.same(head_cells(size, value), slow_cells(value))
            self.same(head_of(size, slow_cells(value)), value)
        else:
            self.refuses(InvalidOperation, None, lambda: head_cells(size, value))

    def test_bounds(self):
        for size, log, wanted in ((24, 4, True), (24, 6, True), (24, 7, False), (24, 3, False), (57, 39, True), (57, 40, False),
                                  (58, 40, True), (59, 41, False), (240, 40, True), (240, 41, False), (240, 4, True), (240, 3, False),
                                  (30, 12, True), (30, 13, False)):
            self.judged(size, (1, log, 1, 0, ()), wanted)
            for root in (-1, 0, 1, 2, log + 1, log + 2, size - 1, size, LAST):
                is_root = root == 0 or log + 2 <= root < size
                self.judged(size, (1, log, 1, root, ()), wanted and is_root)
                self.judged(size, (1, log, 1, 0, (("a", 0), ("b", root))), wanted and is_root)
        for turn in (1, LAST, 0, LAST + 1, -1):
            self.judged(24, (turn, 4, 1, 0, ()), 1 <= turn <= LAST)
            self.judged(24, (1, 4, turn, 0, ()), 1 <= turn <= LAST)

    def test_shots(self):
        six = tuple((name, 0) for name in NAMES)
        for shots, wanted in ((six, True), (six + (("zzzzzzzz", 0),), False), (tuple(sorted(six + (("f", 0),))), False),
                              ((("b", 0), ("a", 0)), False), ((("a", 0), ("a", 0)), False), ((("a", 6), ("b", 6)), True),
                              ((("a", 6), ("b", 7), ("c", 23)), True), ((("A", 0),), False), ((("", 0),), False), (("a", 0), False),
                              ([], False), ((["a", 0],), False), ((("a", 0, 0),), False), ((("a",),), False), (((1, 0),), False),
                              ((("a", True),), False), ((("a", None),), False), (None, False), ({}, False), ((("ab", 0), ("b", 0)), True)):
            self.judged(24, (1, 4, 1, 6, shots), wanted)
        self.same(len(head_cells(24, (1, 4, 1, 6, six))), 17)

    def test_values_that_are_none(self):
        good = (1, 4, 1, 6, (("a", 7),))
        for value in anything() + [list(good), good + (1,), good[:4], ("1",) + good[1:], (True,) + good[1:], (1, True, 1, 0, ()),
                                   (1, 4, True, 0, ()), (1, 4, 1, False, ()), (1, 4, 1, None, ()), (1, None, 1, 0, ())]:
            self.judged(24, value, False)

    def test_each_cell_changed(self):
        rng = Random(110)
        heads_there = [some_head(rng, size) for size in (24, 30, 58, 240) for _ in range(12)]
        told = 0
        for head in heads_there:
            cells = slow_cells(head)
            for size in (24, 30, 58, 240):
                for at in range(len(cells)):
                    for new in (0, 1, 2, 3, 4, 5, 6, 7, 23, 24, 27, 40, 41, 239, 240, LAST, name_cell("a"), name_cell("aa"), cells[at] + 1):
                        some = cells[:at] + (new,) + cells[at + 1:]
                        there = head_of(size, some)
                        if there is not None:
                            told += 1
                            self.assertTrue(slow_is_head(size, there))
                            self.same(slow_cells(there), some)
                    self.assertIsNone(head_of(size, cells[:at]))
                self.assertIsNone(head_of(size, cells + (0,)))
                self.assertIsNone(head_of(size, cells + (name_cell("zz"), 0)))
                self.same(head_of(size, cells), head if slow_is_head(size, head) else None)
        self.assertGreater(told, 1000)
        for cells in ((), (1,), (0,) * 5, (1, 4, 1, 0, LAST), (1, 4, 1, 0, 24) + (1, 0) * 23, (1,) * 52):
            self.assertIsNone(head_of(24, cells))

    def test_next_heads(self):
        head = (3, 5, 8, 9, (("a", 10),))
        self.same(next_head(24, head, 9, 0, ()), (4, 5, 9, 0, ()))
        self.same(next_head(24, head, 1, 7, (("b", 23), ("c", 0))), (4, 5, 1, 7, (("b", 23), ("c", 0))))
        self.same(next_head(24, (LAST - 1,) + head[1:], 9, 0, ()), (LAST, 5, 9, 0, ()))
        for number_, root, shots in ((0, 0, ()), (LAST + 1, 0, ()), (True, 0, ()), (1, 6, ()), (1, 24, ()), (1, None, ()), (1, 0, None),
                                     (1, 0, (("b", 0), ("a", 0))), (1, 0, (("a", 6),)), ("1", 0, ()), (1, 0, [])):
            self.refuses(InvalidOperation, None, lambda: next_head(24, head, number_, root, shots))
        self.refuses(InvalidOperation, None, lambda: next_head(24, (LAST,) + head[1:], 9, 0, ()))
        self.refuses(InvalidOperation, None, lambda: next_head(23 + 1, (1, 7, 1, 0, ()), 9, 0, ()))


class Seats(Case):
    def test_where_heads_are_told(self):
        pair = fresh_pair(24)
        self.same([found_head(pair), told_head(pair, 0), told_head(pair, 1)], [None] * 3)
        # At the wrong seat, of another size, not a head, and with cells too many nothing is told.
        for at, head in ((0, (1, 4, 1, 0, ())), (1, (2, 4, 1, 0, ())), (1, (1, 7, 1, 0, ())), (0, (2, 4, 1, 30, ()))):
            pair.write_block(at, slow_cells(head))
            self.same([found_head(pair), told_head(pair, at)], [None] * 2)
        pair.write_block(1, slow_cells((1, 4, 1, 0, ())) + (0,))
        self.same(found_head(pair), None)
        pair.write_block(1, slow_cells((1, 4, 1, 0, ())))
        self.same([told_head(pair, 0), told_head(pair, 1), found_head(pair)], [None, (1, 4, 1, 0, ()), (1, 4, 1, 0, ())])
        pair.write_block(0, slow_cells((8, 4, 1, 0, ())))
        self.same([told_head(pair, 0), found_head(pair)], [(8, 4, 1, 0, ()), (8, 4, 1, 0, ())])
        pair.write_block(1, slow_cells((7, 5, 2, 9, ())))
        self.same([told_head(pair, 1), found_head(pair)], [(7, 5, 2, 9, ()), (8, 4, 1, 0, ())])

    def test_writing(self):
        pair = fresh_pair(24)
        self.same([write_head(pair, (5, 4, 1, 0, ())), pair.read_block(1)], [1, ("whole", 1, (5, 4, 1, 0, 0))])
        for turn in (1, 2, 4, 5, 7, 9, LAST):
            before = pair_state(pair)
            self.refuses(Refused, ("seat", 5), lambda: write_head(pair, (turn, 4, 1, 0, ())))
            self.assertEqual(pair_state(pair), before)
        self.same([write_head(pair, (10, 4, 1, 6, (("a", 6),))), pair.read_block(0)], [2, ("whole", 2, (10, 4, 1, 6, 1, name_cell("a"), 6))])
        self.refuses(Refused, ("seat", 10), lambda: write_head(pair, (12, 4, 1, 0, ())))
        self.refuses(Refused, ("seat", 10), lambda: write_head(pair, (9, 4, 1, 0, ())))
        self.same(write_head(pair, (11, 4, 1, 0, ())), 3)
        pair.stop_after(0)
        self.refuses(Stopped, None, lambda: write_head(pair, (12, 4, 1, 0, ())))
        full = fresh_pair(24)
        for disk in (full.one, full.other):
            disk.write(9, ((9, LAST, 0), (), (), ()))
        self.refuses(TooMany, LAST, lambda: write_head(full, (1, 4, 1, 0, ())))

    def some_pair(self, rng, size, pool):
        """A pair with heads at both seats, and what else can be, flushed or not, cut and lost."""
        pair = fresh_pair(size)
        for _ in range(rng.randrange(6)):
            kind = rng.randrange(8)
            head = rng.choice(pool)
            rows = max([len(row) for row in {**pair.one.rows, **pair.other.rows}.values()] + [0])
            if kind < 4 and rows < 2:
                pair.write_block(head[0] % 2, slow_cells(head))
            elif kind == 4 and rows < 2:
                pair.write_block(rng.randrange(2), rng.choice((slow_cells(head), (), (1, 2), slow_cells(head)[:-1])))
            elif kind == 5:
                pair.flush()
            elif kind == 6:
                cuts = [{sector: len(row) - 1 for sector, row in disk.rows.items() if rng.randrange(2)} for disk in (pair.one, pair.other)]
                pair = pair.behind(cuts[0], cuts[1])
            else:
                lose_some(rng, pair, 3, (0, 1))
        return pair

    def test_against_a_trial_of_all_cuts(self):
        rng = Random(111)
        counts = {}
        for round_ in range(260):
            size = rng.choice((24, 30))
            pool = sorted({some_head(rng, size) for _ in range(5)})
            pair = self.some_pair(rng, size, pool)
            state = pair_state(pair)
            for at in (0, 1):
                self.same(told_head(pair, at), slow_told(pair, at, pool))
            both = [head for head in (slow_told(pair, 0, pool), slow_told(pair, 1, pool)) if head is not None]
            self.same(found_head(pair), max(both, key=lambda head: head[0]) if both else None)
            wanted = trial(pair, pool)
            told = tuple(sorted(head for head in wanted if head is not None))
            self.same(heads_that_can_come(pair), ((None,) if None in wanted else ()) + told)
            counts[len(wanted)] = True
            for head in pool + [None]:
                cuts = cuts_for_head(pair, head)
                if head not in wanted:
                    self.assertIsNone(cuts)
                else:
                    self.judged(pair, pool, head, cuts)
                for other, (one, last) in wanted.items():
                    self.assertIs(are_cuts_for_head(pair, head, (one, last)), head == other)
            self.assertEqual(pair_state(pair), state)
        self.assertGreater(len(counts), 3)

    def judged(self, pair, pool, head, cuts):
        self.assertIs(type(cuts), tuple)
        self.assertTrue(is_cut(pair.one, cuts[0]) and is_cut(pair.other, cuts[1]))
        self.assertTrue(all(sector[0] in (0, 1) for cut in cuts for sector in cut))
        self.same([list(cut) for cut in cuts], [sorted(cut) for cut in cuts])
        self.assertIs(are_cuts_for_head(pair, head, cuts), True)
        self.same(found_head(pair.behind(cuts[0], cuts[1])), head)

    def test_a_turn_that_is_cut(self):
        rng = Random(112)
        for round_ in range(60):
            elder = some_head(rng, 24, rng.randrange(2, 9))
            new = next_head(24, elder, rng.randrange(1, 9), 0, ())
            pair = fresh_pair(24)
            at = 1 - elder[0] % 2
            if round_ % 3:
                # A block of an elder turn, one that is no head, or none.
                pair.write_block(at, slow_cells((elder[0] - 1,) + elder[1:]) if round_ % 3 == 1 else (1, 2, 3))
            write_head(pair, elder)
            pair.flush()
            write_head(pair, new)
            if round_ % 2:
                lose_some(rng, pair, 4, (elder[0] % 2,))
            self.same(heads_that_can_come(pair), (elder, new))
            for _ in range(10):
                cuts = [{sector: 0 for sector in disk.rows if rng.randrange(3)} for disk in (pair.one, pair.other)]
                behind = pair.behind(cuts[0], cuts[1])
                self.assertIn(found_head(behind), (elder, new))
                lose_some(rng, behind, 6, (0, 1))
                self.assertIn(found_head(behind), (elder, new))
            pair.flush()
            self.same(heads_that_can_come(pair), (new,))
            for _ in range(3):
                lose_some(rng, pair, 4, (0, 1))
                self.same([heads_that_can_come(pair), found_head(pair)], [(new,), new])

    def test_equal_turns_at_one_seat(self):
        pair = fresh_pair(24)
        one, other = (3, 4, 1, 0, ()), (3, 4, 2, 0, ())
        pair.write_block(1, slow_cells(other))
        pair.flush()
        pair.write_block(1, slow_cells(one))
        pair.write_block(1, slow_cells(other))
        self.same(heads_that_can_come(pair), (None, one, other))
        self.same(found_head(pair), other)

    def test_more_than_twelve_values(self):
        for at, place in ((0, 0), (1, 1)):
            pair = fresh_pair(24)
            for turn in range(13):
                pair.write_block(at, (turn, 4, 1, 0, 0))
                call = [lambda: heads_that_can_come(pair), lambda: cuts_for_head(pair, None), lambda: cuts_for_head(pair, (1, 4, 1, 0, ()))]
                if turn == 12:
                    for one in call:
                        self.refuses(TooMany, 12, one)
            self.assertIs(are_cuts_for_head(pair, None, ({}, {})), True)
            whole = {(at, part): 12 - at for part in range(4)}
            self.assertIs(are_cuts_for_head(pair, (12 - at, 4, 1, 0, ()), (whole, {})), True)
        two = fresh_pair(24)
        two.write_block(0, ())
        for _ in range(12):
            two.write_block(1, (3, 4, 1, 0, 0))
        self.same(heads_that_can_come(two), (None, (3, 4, 1, 0, ())))

    def test_cuts_of_any_sectors(self):
        pair = fresh_pair(24)
        write_head(pair, (1, 4, 1, 0, ()))
        pair.write_block(5, (7,))
        whole = {(1, part): 0 for part in range(4)}
        self.assertIs(are_cuts_for_head(pair, (1, 4, 1, 0, ()), ({**whole, (5, 0): 0}, {})), True)
        self.assertIs(are_cuts_for_head(pair, None, ({(5, 0): 0}, {(1, 0): 0})), True)
        self.assertIs(are_cuts_for_head(pair, None, (whole, {})), False)
        for wrong in anything() + [({(1, 0): 1}, {}), ({(2, 0): 0}, {}), ({}, {(1, 4): 0}), ({},), ({}, {}, {}), [{}, {}], ({}, None),
                                   ({}, {(1, 0): True})]:
            if wrong != ({}, {}) or type(wrong) is not tuple:
                self.assertIs(are_cuts_for_head(pair, None, wrong), False)
                self.assertIs(are_cuts_for_head(pair, (1, 4, 1, 0, ()), wrong), False)

    def test_not_true(self):
        # What is found is whole on no single disk.
        pair = fresh_pair(24)
        write_head(pair, (1, 4, 1, 0, ()))
        behind = pair.behind({(1, 0): 0, (1, 1): 0}, {(1, 2): 0, (1, 3): 0})
        self.same(found_head(behind), (1, 4, 1, 0, ()))
        self.same([found_head(Pair(behind.one, fresh_pair(24).other)), found_head(Pair(behind.other, fresh_pair(24).one))], [None, None])
        # The greater turn was written first.
        pair = fresh_pair(24)
        pair.write_block(0, (8, 4, 1, 0, 0))
        pair.write_block(1, (3, 4, 1, 0, 0))
        self.same(found_head(pair), (8, 4, 1, 0, ()))


class Wrong(WrongCase):
    def test_wrong_arguments(self):
        size = number(24, 24, 240)
        good = (3, 5, 8, 9, (("a", 10),))
        head = Arg(good, lambda value: slow_is_head(24, value), InvalidOperation,
                   [(0,) + good[1:], good[:4], list(good), good[:3] + (6, ()), (1, 7, 1, 0, ())])
        cells = Arg((1,), lambda value: type(value) is tuple and len(value) <= 52 and all(is_int(one, 0, LAST) for one in value),
                    InvalidBlock, [(0,) * 53, (True,), (-1,), [1], ("1",), (LAST + 1,)])
        pair = fresh_pair(24)
        write_head(pair, (2, 4, 1, 0, ()))
        state = lambda: pair_state(pair)
        self.wrong_calls(lambda one: is_head(one, good), [size])
        self.wrong_calls(head_cells, [size, head])
        self.wrong_calls(head_of, [size, cells])
        self.wrong_calls(lambda one, other: next_head(one, other, 1, 0, ()), [size, head])
        self.wrong_calls(told_head, [pair_arg(pair), number(0, 0, 1)], state)
        self.wrong_calls(found_head, [pair_arg(pair)], state)
        self.wrong_calls(heads_that_can_come, [pair_arg(pair)], state)
        self.wrong_calls(write_head, [pair_arg(pair), head], state)
        wanted = Arg(None, lambda value: value is None or slow_is_head(24, value), InvalidOperation, head.more)
        self.wrong_calls(cuts_for_head, [pair_arg(pair), wanted], state)
        self.wrong_calls(lambda one, other: are_cuts_for_head(one, other, ({}, {})), [pair_arg(pair), wanted], state)

    def test_sequence(self):
        self.refuses(InvalidNumber, 23, lambda: next_head(23, None, None, None, None))
        self.refuses(InvalidOperation, None, lambda: next_head(24, None, None, None, None))
        pair = fresh_pair(24)
        write_head(pair, (2, 4, 1, 0, ()))
        self.refuses(InvalidDisk, None, lambda: write_head(None, None))
        self.refuses(InvalidOperation, None, lambda: write_head(pair, (1, 7, 1, 0, ())))
        for _ in range(13):
            pair.write_block(0, (2, 4, 1, 0, 0))
        self.refuses(InvalidOperation, None, lambda: cuts_for_head(pair, (1, 7, 1, 0, ())))

    def test_nothing_is_shared(self):
        pair = fresh_pair(24)
        write_head(pair, (1, 4, 1, 0, ()))
        cuts_for_head(pair, (1, 4, 1, 0, ()))[0].clear()
        self.assertTrue(cuts_for_head(pair, (1, 4, 1, 0, ()))[0] or cuts_for_head(pair, (1, 4, 1, 0, ()))[1])
