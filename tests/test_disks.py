from itertools import islice, product
from math import prod
from random import Random
from types import GeneratorType

from helpers import Arg, Case, WrongCase, anything, number, random_block, state_of
from everycut.errors import (
    InvalidBlock, InvalidCut, InvalidDisk, InvalidNumber, InvalidOperation, InvalidPicture, TooMany)
from everycut.outside import disks
from everycut.outside.disks import (
    Disk, can_come, cut_to, cuts, fresh_picture, is_block, is_cut, is_moment_of, is_picture, is_script, is_sector,
    moment_of, run_script)

EXAMPLES = '''
>>> EMPTY = fresh_picture(24)
>>> NEW = ((1, 2), (3,), (), (4,))
>>> D = Disk(EMPTY)
>>> D.write(5, NEW)
>>> [D.read(5) == NEW, D.settled == EMPTY, D.rows, D.cut_number, D.picture_number]
[True, True, {(5, 0): ((1, 2),), (5, 1): ((3,),), (5, 2): ((),), (5, 3): ((4,),)}, 16, 8]
>>> [D.after({}).settled == EMPTY, D.after({(5, 1): 0}).read(5), is_cut(D, {(5, 1): 1}), len(list(cuts(D))), list(cuts(D))[1], str(D)]
[True, ((), (3,), (), ()), False, 16, {(5, 3): 0}, 'disk of 24 blocks, 4 sectors to flush']
>>> GOAL = EMPTY[:5] + (((1, 2), (), (), (4,)),) + EMPTY[6:]
>>> [cut_to(D, GOAL), can_come(D, EMPTY[:6] + (NEW,) + EMPTY[7:]), moment_of(EMPTY, (("write", 5, NEW), ("flush",)), GOAL)]
[{(5, 0): 0, (5, 3): 0}, False, (1, {(5, 0): 0, (5, 3): 0})]
>>> D.flush()
>>> [D.settled[5] == NEW, D.rows, D.cut_number, D.is_sure(5, 0)]
[True, {}, 1, True]
>>> D.lose(5, 2)
>>> D.read(5)
((1, 2), (3,), None, (4,))
>>> D.write(5, D.read(5))
raises InvalidBlock
'''

EMPTY = fresh_picture(24)
NEW = ((1, 2), (3,), (), (4,))
OLD = ((1, 2), (), (), (9,) * 16)


def with_block(picture, at, block):
    return picture[:at] + (block,) + picture[at + 1:]


def put_sector(picture, sector, value):
    at, part = sector
    return with_block(picture, at, picture[at][:part] + (value,) + picture[at][part + 1:])


def counted_cuts(disk):
    """All cuts, as a row of counters counts, by the rows alone."""
    sectors = sorted(disk.rows)
    for counters in product(*[range(-1, len(disk.rows[sector])) for sector in sectors]):
        yield {sector: index for sector, index in zip(sectors, counters) if index >= 0}


def picture_behind(disk, cut):
    picture = disk.settled
    for sector, index in cut.items():
        picture = put_sector(picture, sector, disk.rows[sector][index])
    return picture


def full(block):
    return tuple(sector if sector is not None else () for sector in block)


def some_disks(seed, many, steps=7, most=600):
    """Disks behind writes, flushes and losses, with not too many cuts."""
    rng = Random(seed)
    found = []
    while len(found) < many:
        disk = Disk(EMPTY)
        for _ in range(rng.randrange(steps + 1)):
            at = rng.choice((0, 5, 23))
            kind = rng.randrange(10)
            if kind < 6:
                disk.write(at, full(random_block(rng, at, (1, 2))))
            elif kind < 8:
                disk.lose(at, rng.randrange(4))
            else:
                disk.flush()
        if disk.cut_number <= most:
            found.append(disk)
    return found


class Model:
    """A disk as [0.10] tells it: for each sector what is settled, and a row."""

    def __init__(self):
        self.there = {(at, part): [()] for at in range(24) for part in range(4)}

    def do(self, step):
        if step[0] == "write":
            for part in range(4):
                self.there[step[1], part].append(step[2][part])
        elif step[0] == "lose":
            self.there[step[1], step[2]] = [None]
        else:
            self.there = {sector: [row[-1]] for sector, row in self.there.items()}

    def picture(self, which):
        return tuple(tuple(self.there[at, part][which] for part in range(4)) for at in range(24))


class Kinds(Case):
    def test_constants(self):
        self.same([disks.LEAST_BLOCKS, disks.MOST_BLOCKS, disks.MOST_CUTS, disks.MOST_STEPS], [24, 240, 20000, 200])

    def test_sectors(self):
        for value in (None, (), (0,), (10 ** 18 - 1,) * 16):
            self.assertIs(is_sector(value), True)
        for value in ((1,) * 17, (10 ** 18,), (-1,), (True,), [1], (None,), "", 0, ("a",)):
            self.assertIs(is_sector(value), False)

    def test_blocks(self):
        for value in (((),) * 4, (None,) * 4, ((1,) * 16,) * 4):
            self.assertIs(is_block(value), True)
        for value in (((),) * 3, ((),) * 5, [()] * 4, ((1,) * 17, (), (), ()), None, (0, 0, 0, 0), ((True,), (), (), ())):
            self.assertIs(is_block(value), False)

    def test_pictures(self):
        for size in (24, 25, 240):
            self.assertIs(is_picture((((),) * 4,) * size), True)
            self.same(fresh_picture(size), (((),) * 4,) * size)
        for value in ((((),) * 4,) * 23, (((),) * 4,) * 241, [((),) * 4] * 24, with_block(EMPTY, 23, ()),
                      with_block(EMPTY, 0, ((True,), (), (), ())), with_block(EMPTY, 0, ((False,), (), (), ()))):
            self.assertIs(is_picture(value), False)
        self.assertIs(is_picture(with_block(EMPTY, 3, (None, (1,), None, ()))), True)


class Disks(Case):
    def test_examples(self):
        self.examples(EXAMPLES, vars(disks).copy())

    def test_against_a_model(self):
        rng = Random(2)
        for _ in range(60):
            disk, model = Disk(EMPTY), Model()
            for _ in range(25):
                at = rng.randrange(24)
                step = rng.choice((("write", at, full(random_block(rng, at, (1, 2, 3)))), ("flush",),
                                   ("lose", at, rng.randrange(4)), ("write", 4, NEW)))
                getattr(disk, step[0])(*step[1:])
                model.do(step)
                rows = {sector: tuple(row[1:]) for sector, row in sorted(model.there.items()) if len(row) > 1}
                self.same(disk.rows, rows)
                self.same(disk.settled, model.picture(0))
                self.same(disk.seen, model.picture(-1))
                self.same([disk.read(place) for place in range(24)], list(model.picture(-1)))
                self.same(disk.cut_number, prod(len(row) for row in model.there.values()))
                self.same(disk.picture_number, prod(len(set(row)) for row in model.there.values()))
                sure = [disk.is_sure(*sector) for sector in sorted(model.there)]
                self.same(sure, [len(set(row)) == 1 for _, row in sorted(model.there.items())])

    def test_a_block_written_once_and_several_times(self):
        disk = Disk(EMPTY)
        for times in range(1, 5):
            self.assertIsNone(disk.write(5, NEW))
            self.same(disk.rows[5, 0], ((1, 2),) * times)
            self.same([disk.cut_number, disk.picture_number], [(times + 1) ** 4, 8])
        self.assertIs(disk.is_sure(5, 2), True)
        self.assertIs(disk.is_sure(5, 0), False)
        self.assertIsNone(disk.flush())
        self.same([disk.cut_number, disk.picture_number, disk.read(5), disk.rows], [1, 1, NEW, {}])
        self.assertIsNone(disk.lose(5, 0))
        self.same([disk.read(5)[0], disk.settled[5][0], disk.is_sure(5, 0)], [None, None, True])

    def test_a_lost_sector_is_written_again(self):
        disk = Disk(EMPTY)
        disk.write(5, NEW)
        disk.lose(5, 1)
        self.same([disk.read(5), list(disk.rows)], [((1, 2), None, (), (4,)), [(5, 0), (5, 2), (5, 3)]])
        disk.write(5, OLD)
        self.same([disk.read(5), disk.rows[5, 1], disk.settled[5][1]], [OLD, ((),), None])
        self.same(disk.after({}).read(5), ((), None, (), ()))
        disk.flush()
        self.same(disk.settled[5], OLD)

    def test_after_each_cut(self):
        for disk in some_disks(3, 40):
            before = state_of(disk)
            for cut in counted_cuts(disk):
                behind = disk.after(cut)
                self.assertIsInstance(behind, Disk)
                self.same([behind.settled, behind.rows, behind.size], [picture_behind(disk, cut), {}, 24])
            self.same(before, state_of(disk))

    def test_copied(self):
        disk = Disk(EMPTY)
        disk.write(5, NEW)
        twin = disk.copied()
        self.assertTrue(twin == disk)
        twin.write(5, NEW)
        self.same(disk.rows[5, 0], ((1, 2),))
        self.assertFalse(twin == disk)
        self.assertTrue(twin != disk)
        disk.write(5, NEW)
        self.assertTrue(twin == disk)
        disk.flush()
        self.same(twin.settled, EMPTY)
        behind = twin.after({(5, 0): 1})
        behind.write(5, OLD)
        twin.lose(5, 3)
        self.same([behind.read(5), twin.read(5)[:3]], [OLD, NEW[:3]])

    def test_copied_with_what_is_settled(self):
        for size in (24, 25, 240):
            picture = put_sector(with_block(fresh_picture(size), size - 1, NEW), (3, 0), None)
            disk = Disk(picture)
            disk.write(5, OLD)
            twin = disk.copied()
            self.same([twin.settled, twin.rows, twin.size], [picture, disk.rows, size])
            self.assertTrue(twin == disk)
            twin.flush()
            twin.lose(size - 1, 1)
            self.same([disk.settled, disk.read(5)], [picture, OLD])

    def test_equal(self):
        one, other = Disk(EMPTY), Disk(EMPTY)
        self.assertTrue(one == other)
        one.write(5, EMPTY[5])
        self.assertFalse(one == other)
        self.same(one.seen, other.seen)
        self.assertTrue(Disk(fresh_picture(25)) != other)
        for value in anything():
            self.assertIs(other == value, isinstance(value, Disk))
            self.assertIs(other != value, not isinstance(value, Disk))

    def test_length_and_text(self):
        for size in (24, 77, 240):
            disk = Disk(fresh_picture(size))
            self.same([len(disk), disk.size, str(disk)], [size, size, f"disk of {size} blocks, 0 sectors to flush"])
        disk.write(1, NEW)
        disk.write(1, NEW)
        disk.write(239, NEW)
        disk.lose(1, 1)
        self.assertEqual(str(disk), "disk of 240 blocks, 7 sectors to flush")

    def test_is_not_iterated_over(self):
        with self.assertRaises(TypeError):
            iter(Disk(EMPTY))

    def test_what_is_returned_shares_no_state(self):
        disk = Disk(EMPTY)
        disk.write(5, NEW)
        disk.rows.clear()
        disk.rows[5, 0] = ((7,),)
        self.same(disk.rows[5, 0], ((1, 2),))
        cut = cut_to(disk, disk.seen)
        cut.clear()
        self.same(cut_to(disk, disk.seen), {(5, 0): 0, (5, 1): 0, (5, 3): 0})
        given = {(5, 0): 0}
        disk.after(given).write(3, NEW)
        self.same(given, {(5, 0): 0})
        for made in cuts(disk):
            made[7, 7] = 7
        self.same(list(cuts(disk))[1], {(5, 3): 0})


class Cuts(Case):
    def test_all_in_their_sequence(self):
        for disk in some_disks(4, 60):
            self.same(list(cuts(disk)), list(counted_cuts(disk)))
            self.assertEqual(len(list(cuts(disk))), disk.cut_number)

    def test_one_by_one(self):
        disk = Disk(EMPTY)
        made = cuts(disk)
        self.assertIsInstance(made, GeneratorType)
        self.assertIsInstance(cuts(None), GeneratorType)
        for _ in range(3):
            disk.write(5, NEW)
        self.same(list(islice(made, 3)), [{}, {(5, 3): 0}, {(5, 3): 1}])

    def test_exactly_and_more_than_20000(self):
        disk = Disk(EMPTY)
        for _ in range(4):
            disk.write(5, NEW)
        disk.write(6, NEW)
        disk.write(7, NEW)
        for part in range(3):
            disk.lose(7, part)
        self.assertEqual(disk.cut_number, 20000)
        made = list(cuts(disk))
        self.same([len(made), made[0], made[1], made[-1]], [
            20000, {}, {(7, 3): 0}, {**{(5, part): 3 for part in range(4)}, **{(6, part): 0 for part in range(4)}, (7, 3): 0}])
        disk.write(8, NEW)
        for part in range(3):
            disk.lose(8, part)
        self.refuses(TooMany, 20000, lambda: next(cuts(disk)))
        self.same(cut_to(disk, disk.settled), {})

    def test_errors_come_with_the_first_result(self):
        for value in anything():
            if not isinstance(value, Disk):
                made = cuts(value)
                self.refuses(InvalidDisk, None, lambda: next(made))

    def test_is_cut(self):
        for disk in some_disks(5, 30, most=300):
            for cut in counted_cuts(disk):
                self.assertIs(is_cut(disk, cut), True)
                self.assertIs(is_cut(disk, dict(reversed(cut.items()))), True)
        disk = Disk(EMPTY)
        for _ in range(2):
            disk.write(0, NEW)
            disk.write(1, NEW)
        disk.lose(1, 0)
        for value in ({(0, 0): 2}, {(0, 0): -1}, {(0, 0): True}, {(0, False): 0}, {(True, 1): 0}, {(False, 1): 0},
                      {(1, 0): 0}, {(2, 0): 0}, {(24, 0): 0}, {(0, 4): 0}, {(0, 0): None}, {0: 0}, {(0,): 0},
                      {(0, 0, 0): 0}, {"a": 0}, [(0, 0)], (), None, {(-24, 0): 0}, {(0, -4): 0}, {None: 0}):
            self.assertIs(is_cut(disk, value), False)
            self.refuses(InvalidCut, None, lambda: disk.after(value))
        for value in ({}, {(0, 0): 1}, {(1, 1): 0}, {(1, 3): 1, (0, 2): 0}):
            self.assertIs(is_cut(disk, value), True)


class WhatCanCome(Case):
    def test_against_all_cuts(self):
        for disk in some_disks(6, 40, most=300):
            least = {}
            for cut in counted_cuts(disk):
                picture = picture_behind(disk, cut)
                unlike = {(at, part) for at in range(24) for part in range(4)
                          if picture[at][part] != disk.settled[at][part]}
                if set(cut) == unlike:
                    kept = least.setdefault(picture, cut)
                    least[picture] = {sector: min(index, kept[sector]) for sector, index in cut.items()}
            self.assertEqual(disk.picture_number, len(least))
            for picture, cut in least.items():
                self.same(cut_to(disk, picture), cut)
                self.assertIs(can_come(disk, picture), True)
            for picture in list(least)[:5]:
                for value in ((77,), None, (1,), ()):
                    near = put_sector(picture, (5, 2), value)
                    self.assertIs(can_come(disk, near), near in least)
                    self.assertIs(cut_to(disk, near) is None, near not in least)

    def test_another_number_of_blocks(self):
        self.assertIsNone(cut_to(Disk(EMPTY), fresh_picture(25)))
        self.assertIs(can_come(Disk(fresh_picture(25)), EMPTY), False)

    def test_equal_values_in_one_row(self):
        disk = Disk(EMPTY)
        for block in (NEW, OLD, NEW, EMPTY[5]):
            disk.write(5, block)
        goal = put_sector(put_sector(EMPTY, (5, 0), (1, 2)), (5, 3), (9,) * 16)
        self.same(cut_to(disk, goal), {(5, 0): 0, (5, 3): 1})
        self.same(cut_to(disk, EMPTY), {})


def some_scripts(seed, many):
    rng = Random(seed)
    for _ in range(many):
        script = []
        for _ in range(rng.randrange(7)):
            at = rng.choice((3, 4))
            script.append(rng.choice((("write", at, full(random_block(rng, at, (1,), 0))), ("flush",),
                                      ("write", 3, NEW), ("lose", at, rng.randrange(4)))))
        yield tuple(script)


class Scripts(Case):
    def test_is_script(self):
        good = (("write", 0, NEW), ("flush",), ("lose", 23, 3), ("write", 23, EMPTY[0]))
        for script in ((), good, good * 50):
            self.assertIs(is_script(EMPTY, script), True)
        for script in (good * 50 + (("flush",),), list(good), (("write", 24, NEW),), (("write", -1, NEW),),
                       (("write", 0, (None,) + NEW[1:]),), (("write", 0, NEW[:3]),), (("write", 0),),
                       (("write", 0, NEW, 1),), (("flush", 0),), (("lose", 0),), (("lose", 0, 4),), (("lose", 24, 0),),
                       (("lose", True, 0),), (("lose", 0, False),), (("lose", -1, 0),), (("lose", 0, -1),),
                       (("lose", 0, 0, 0),), (("gain", 0, 0),), (("write", 0, 0),), (("lose", 0, NEW),), (("read", 0),), ((),), (["flush"],), ("flush",),
                       (("write", True, NEW),), None, {}, (("write", 0, ((True,), (), (), ())),), (("Flush",),)):
            self.assertIs(is_script(EMPTY, script), False)
            self.refuses(InvalidOperation, None, lambda: run_script(EMPTY, script))
        self.assertIs(is_script(fresh_picture(25), (("lose", 24, 0),)), True)

    def test_run_script(self):
        for script in some_scripts(7, 80):
            disk = Disk(EMPTY)
            for step in script:
                getattr(disk, step[0])(*step[1:])
            self.assertTrue(run_script(EMPTY, script) == disk)
        settled = put_sector(EMPTY, (3, 0), None)
        self.same(run_script(settled, ()).settled, settled)

    def test_moments(self):
        rng = Random(8)
        for script in some_scripts(9, 80):
            disks_there = [run_script(EMPTY, script[:moment]) for moment in range(len(script) + 1)]
            goals = [EMPTY, disks_there[-1].seen, with_block(EMPTY, 3, NEW), with_block(EMPTY, 4, OLD)]
            goals += [disk.after(rng.choice(list(cuts(disk)))).settled for disk in disks_there if disk.cut_number < 2000]
            for goal in goals:
                told = [(moment, cut_to(disk, goal)) for moment, disk in enumerate(disks_there) if can_come(disk, goal)]
                wanted = told[0] if told else None
                self.same(moment_of(EMPTY, script, goal), wanted)
                for moment, disk in enumerate(disks_there):
                    for cut in list(cuts(disk))[:20] if disk.cut_number < 2000 else [{}]:
                        self.assertIs(is_moment_of(EMPTY, script, goal, (moment, cut)),
                                      picture_behind(disk, cut) == goal)
                for pair in told:
                    self.assertIs(is_moment_of(EMPTY, script, goal, pair), True)

    def test_goals_at_no_moment_the_first_behind_a_flush_and_a_loss(self):
        script = (("write", 5, NEW), ("flush",), ("write", 5, OLD), ("lose", 5, 0), ("write", 6, NEW))
        second = put_sector(with_block(EMPTY, 5, NEW), (5, 3), (9,) * 16)
        lost = put_sector(with_block(EMPTY, 5, NEW), (5, 0), None)
        self.assertIsNone(moment_of(EMPTY, script, with_block(EMPTY, 6, NEW)))
        self.same(moment_of(EMPTY, script, EMPTY), (0, {}))
        self.same(moment_of(EMPTY, script, with_block(EMPTY, 5, NEW)), (1, {(5, 0): 0, (5, 1): 0, (5, 3): 0}))
        self.same(moment_of(EMPTY, script, second), (3, {(5, 3): 0}))
        self.same(moment_of(EMPTY, script, lost), (4, {}))
        self.assertIs(is_moment_of(EMPTY, script, lost, (5, {})), True)
        self.assertIs(is_moment_of(EMPTY, script, EMPTY, (2, {})), False)
        for value in ((0, {}, 0), [0, {}], (True, {}), (-1, {}), (6, {}), (0, None), (0, {(5, 0): 0}), 0, None, {}, (None, {})):
            self.assertIs(is_moment_of(EMPTY, script, EMPTY, value), False)
        for value in ((-1, {}), (-2, {}), (2, {}), (False, {})):
            self.assertIs(is_moment_of(EMPTY, (("write", 5, NEW),), EMPTY, value), False)
        goal = put_sector(EMPTY, (5, 0), (1, 2))
        self.assertIs(is_moment_of(EMPTY, script, goal, (1, {(5, 0): 0, (5, 2): 0})), True)
        self.refuses(InvalidOperation, None, lambda: moment_of(EMPTY, script, fresh_picture(25)))
        self.refuses(InvalidOperation, None, lambda: is_moment_of(EMPTY, script, fresh_picture(25), (0, {})))

    def test_200_steps(self):
        script = (("write", 5, NEW),) * 199 + (("write", 5, OLD),)
        goal = put_sector(EMPTY, (5, 3), (9,) * 16)
        self.same(moment_of(EMPTY, script, goal), (200, {(5, 3): 199}))

    def test_what_can_come_stays_till_a_flush(self):
        for script in some_scripts(10, 60):
            goals = [EMPTY, with_block(EMPTY, 3, NEW), run_script(EMPTY, script).seen]
            for goal in goals:
                for moment in range(len(script)):
                    here, there = run_script(EMPTY, script[:moment]), run_script(EMPTY, script[:moment + 1])
                    if script[moment][0] == "write" and can_come(here, goal):
                        self.assertIs(can_come(there, goal), True)
                    if script[moment][0] == "flush":
                        self.assertIs(can_come(there, goal), here.seen == goal)


class WrongDisks(WrongCase):
    def setUp(self):
        self.disk = Disk(EMPTY)
        self.disk.write(5, NEW)

    def wrong(self, function, args):
        self.wrong_calls(function, args, lambda: state_of(self.disk))

    def test_wrong_inputs(self):
        disk = Arg(self.disk, lambda value: isinstance(value, Disk), InvalidDisk)
        picture = Arg(EMPTY, is_picture, InvalidPicture, [EMPTY[:23], fresh_picture(240) + EMPTY, list(EMPTY),
                                                          with_block(EMPTY, 0, ((True,), (), (), ()))])
        block = Arg(NEW, lambda value: is_block(value) and None not in value, InvalidBlock,
                    [(None,) + NEW[1:], NEW[:3], ((1,) * 17,) * 4, list(NEW), ((-1,), (), (), ())])
        cut = Arg({(5, 0): 0}, lambda value: value in ({}, {(5, 0): 0}), InvalidCut, [{(5, 0): False}])
        script = Arg((("flush",),), lambda value: value in ((), (("flush",),)), InvalidOperation)
        at, part = number(5, 0, 23), number(0, 0, 3)
        value = Arg(None, lambda given: True, None)
        self.wrong(fresh_picture, [number(24, 24, 240)])
        self.wrong(Disk, [picture])
        self.wrong(self.disk.read, [at])
        self.wrong(self.disk.write, [at, block])
        self.wrong(self.disk.lose, [at, part])
        self.wrong(self.disk.is_sure, [at, part])
        self.wrong(self.disk.after, [cut])
        self.wrong(is_cut, [disk, value])
        self.wrong(cut_to, [disk, picture])
        self.wrong(can_come, [disk, picture])
        self.wrong(is_script, [picture, value])
        self.wrong(run_script, [picture, script])
        self.wrong(moment_of, [picture, script, picture])
        self.wrong(is_moment_of, [picture, script, picture, value])

    def test_the_goals_size_comes_last(self):
        other = fresh_picture(25)
        self.refuses(InvalidOperation, None, lambda: moment_of(EMPTY, (), other))
        self.refuses(InvalidPicture, None, lambda: moment_of(EMPTY, (), other[:3]))

    def test_judges_take_everything(self):
        for value in anything():
            for judged in (is_sector(value), is_block(value), is_picture(value), is_cut(self.disk, value),
                           is_script(EMPTY, value), is_moment_of(EMPTY, (), EMPTY, value)):
                self.assertIs(type(judged), bool)
            if type(value) is not dict or value:
                self.assertIs(is_moment_of(EMPTY, (), EMPTY, (0, value)), False)
