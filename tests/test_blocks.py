from itertools import product
from random import Random

from helpers import (
    Arg, Case, WrongCase, anything, number, random_block, reference_told, reference_wholes, state_of)
from everycut.errors import InvalidBlock, InvalidDisk, InvalidNumber, TooMany
from everycut.outside import blocks, disks
from everycut.outside.blocks import (
    cut_for_outcome, is_cut_for_outcome, last_edition, made_block, outcomes, told_block, told_copies, whole_editions)
from everycut.outside.disks import Disk, cuts, fresh_picture, is_block

EXAMPLES = '''
>>> CELLS = tuple(range(100, 115))
>>> ONE, TWO = made_block(5, 7, CELLS), made_block(5, 8, (1, 2))
>>> [ONE[0][:5], ONE[1], ONE[2], TWO]
[(5, 7, 0, 100, 101), (5, 7, 1, 113, 114), (5, 7, 2), ((5, 8, 0, 1, 2), (5, 8, 1), (5, 8, 2), (5, 8, 3))]
>>> MIXED, OTHER = TWO[:2] + ONE[2:], ONE[:2] + TWO[2:]
>>> [told_block(5, TWO), told_block(6, TWO), told_block(5, MIXED), told_block(5, ((),) * 4), told_block(5, (None,) + TWO[1:])]
[('whole', 8, (1, 2)), ('torn',), ('torn',), ('blank',), ('lost',)]
>>> [whole_editions(5, (MIXED, OTHER)), told_copies(5, (MIXED, OTHER)), told_copies(5, (ONE, (None,) + TWO[1:]))[:2]]
[(7, 8), ('whole', 8, (1, 2)), ('whole', 7)]
>>> D = Disk(fresh_picture(24))
>>> D.write(5, TWO)
>>> [outcomes(D, 5), last_edition(D), is_cut_for_outcome(D, 5, ("torn",), {(5, 0): 0}), cut_for_outcome(D, 5, ("lost",))]
[(('blank',), ('torn',), ('whole', 8, (1, 2))), 8, True, None]
>>> made_block(5, 0, ())
raises InvalidNumber(0)
'''

LAST = 10 ** 18 - 1
BLANK = ((),) * 4
WRONG_TOLD = (("whole", 8, [1, 2]), ("whole", True, ()), ("whole", 8), ["blank"], ("blank", 1), "blank", None, (), 0,
              ("whole", 0, ()), ("whole", 8, (1,) * 53), ("Torn",), ("whole", 8, (True, 2)), {}, ("whole", [], {}))


def unlike_rows(lengths):
    """A disk whose rows at the place 5 have these lengths, ascending, all values being unlike."""
    disk = Disk(fresh_picture(24))
    for count in range(lengths[3]):
        for part in range(4):
            if lengths[3] - lengths[part] == count:
                disk.lose(5, part)
        disk.write(5, tuple((5, 1 + count, part) for part in range(4)))
    return disk


class Made(Case):
    def test_examples(self):
        self.examples(EXAMPLES, {**vars(disks), **vars(blocks)})

    def test_constants(self):
        self.same([blocks.MARKS, blocks.PART_CELLS, blocks.MOST_CELLS], [3, 13, 52])

    def test_numbers_of_cells(self):
        for many in (0, 1, 12, 13, 14, 26, 27, 39, 40, 51, 52):
            cells = tuple(range(1000, 1000 + many))
            block = made_block(7, 3, cells)
            self.assertTrue(is_block(block))
            for part in range(4):
                self.same(block[part], (7, 3, part) + cells[13 * part:13 * part + 13])
            self.same(told_block(7, block), ("whole", 3, cells))
            self.same(told_block(8, block), ("torn",))
        self.refuses(InvalidBlock, None, lambda: made_block(7, 3, (0,) * 53))

    def test_editions_and_places(self):
        for place in (0, 239):
            for edition in (1, LAST):
                self.same(told_block(place, made_block(place, edition, (5,))), ("whole", edition, (5,)))
        for edition in (0, 10 ** 18, -1, True):
            self.refuses(InvalidNumber, edition, lambda: made_block(0, edition, ()))
        for place in (-1, 240, False):
            self.refuses(InvalidNumber, place, lambda: made_block(place, 1, ()))
        self.same(told_block(5, tuple((5, 0, part) for part in range(4))), ("torn",))
        self.same(whole_editions(5, (tuple((5, 0, part) for part in range(4)),)), ())

    def test_each_made_block_is_of_one_place_edition_and_cells(self):
        found = {}
        for place, edition, many, last in product((0, 5), (1, 2), (0, 1, 13, 14, 52), (0, 1)):
            cells = (last,) * many
            block = made_block(place, edition, cells)
            self.assertIn(found.setdefault(block, (place, edition, cells)), [(place, edition, cells)])


class OneCopy(Case):
    def test_torn_blocks(self):
        whole = made_block(5, 7, tuple(range(30)))
        for torn in (whole[:2] + ((5, 7, 2),) + ((5, 7, 3, 1),), ((5, 7, 0),) + whole[1:],
                     whole[:1] + (whole[1][:-1],) + whole[2:], (whole[1], whole[0]) + whole[2:],
                     whole[:3] + ((5, 8, 3),), whole[:3] + ((),), whole[:3] + ((5, 7),), whole[:3] + ((6, 7, 3),),
                     whole[:3] + ((5, 7, 2),), whole[:3] + ((5, 7, 3, 1),), ((), (), (), (1,))):
            self.same(told_block(5, torn), ("torn",))

    def test_lost_and_blank(self):
        whole = made_block(5, 7, ())
        for part in range(4):
            self.same(told_block(5, whole[:part] + (None,) + whole[part + 1:]), ("lost",))
            self.same(told_block(5, BLANK[:part] + (None,) + BLANK[part + 1:]), ("lost",))
        self.same([told_block(5, BLANK), told_block(5, (None,) * 4)], [("blank",), ("lost",)])

    def test_one_copy_is_as_several(self):
        rng = Random(11)
        for _ in range(1500):
            block = random_block(rng, 5, (0, 1, 2))
            if rng.randrange(4) == 0:
                block = block[:2] + (None,) + block[3:]
            self.same(told_block(5, block), reference_told(5, (block,)))
            self.same(told_copies(5, (block,)), told_block(5, block))


class Copies(Case):
    def test_against_the_words(self):
        rng = Random(12)
        whole = 0
        for _ in range(6000):
            editions = rng.choice(((1,), (1, 2), (1, 2, 3)))
            length = rng.choice((None, 0, 13))
            copies = [random_block(rng, 5, editions, length) for _ in range(rng.randrange(1, 5))]
            for at, copy in enumerate(copies):
                if rng.randrange(3) == 0:
                    copies[at] = made_block(5, rng.choice(editions), (rng.randrange(2),) * rng.choice((0, 14, 52)))
                if rng.randrange(3) == 0:
                    part = rng.randrange(4)
                    copies[at] = copies[at][:part] + (None,) + copies[at][part + 1:]
            copies = tuple(copies)
            found = reference_wholes(5, copies)
            self.same(whole_editions(5, copies), tuple(sorted(found)))
            self.same(told_copies(5, copies), reference_told(5, copies))
            whole += len(found) > 0
        self.assertGreater(whole, 500)

    def test_blank_lost_and_torn(self):
        half = (None, (), (), ())
        other = ((), (), (), None)
        self.same(told_copies(5, (half, other)), ("blank",))
        self.same(told_copies(5, (half, half)), ("lost",))
        self.same(told_copies(5, (half, half, other, other)), ("blank",))
        self.same(told_copies(5, (half, ((), (), (), (1,)))), ("torn",))
        self.same(told_copies(5, (half, (None, (1,), (), ()))), ("lost",))
        self.same(told_copies(5, ((None,) * 4, made_block(5, 1, (3,)))), ("whole", 1, (3,)))

    def test_several_whole_editions_among_torn_copies(self):
        made = [made_block(5, edition, tuple(range(edition))) for edition in (1, 20, 40, 52)]
        copies = tuple(tuple(made[(part + at) % 4][part] for part in range(4)) for at in range(4))
        self.assertEqual({told_block(5, copy) for copy in copies}, {("torn",)})
        self.same(whole_editions(5, copies), (1, 20, 40, 52))
        self.same(told_copies(5, copies), ("whole", 52, tuple(range(52))))
        self.same(whole_editions(5, copies[1:]), ())

    def test_two_values_of_one_edition(self):
        one, other = made_block(5, 7, (1,)), made_block(5, 7, (2,))
        self.same(whole_editions(5, (one, other)), ())
        self.same(told_copies(5, (one, other)), ("torn",))
        self.same(told_copies(5, (one, (None,) + other[1:])), ("whole", 7, (1,)))
        self.same(told_copies(5, (one, other, made_block(5, 6, ()))), ("whole", 6, ()))

    def test_a_fitting_sector_in_another_index_does_not_count(self):
        one = made_block(5, 7, (1,))
        self.same(told_copies(5, ((one[1], one[0], one[2], one[3]), ((), (), (), ()))), ("torn",))

    def test_losses_keep_an_edition_that_is_kept_at_each_index(self):
        rng = Random(13)
        for _ in range(300):
            block = made_block(5, 7, tuple(range(rng.randrange(53))))
            old = made_block(5, 6, (1,))
            copies = [block, rng.choice((block, old))]
            before = whole_editions(5, tuple(copies))
            for part in range(4):
                at = rng.randrange(2)
                copies[at] = copies[at][:part] + (None,) + copies[at][part + 1:]
            told = whole_editions(5, tuple(copies))
            self.assertTrue(set(told) <= set(before))
            if all(any(copy[part] == block[part] for copy in copies) for part in range(4)):
                self.assertIn(7, told)


class Outcomes(Case):
    def check(self, disk, at):
        """What is told against a trial of all cuts of sectors of the place."""
        before = state_of(disk)
        here = Disk(disk.settled)
        rows = {sector: row for sector, row in disk.rows.items() if sector[0] == at}
        found = {}
        for indices in product(*[range(-1, len(row)) for row in rows.values()]):
            cut = {sector: index for sector, index in zip(rows, indices) if index >= 0}
            block = list(here.settled[at])
            for sector, index in cut.items():
                block[sector[1]] = rows[sector][index]
            told = reference_told(at, (tuple(block),))
            found.setdefault(told, []).append(cut)
        self.same(outcomes(disk, at), tuple(sorted(found)))
        for told in list(found) + [("lost",), ("blank",), ("torn",), ("whole", 9, ()), ("whole", 1, (1,))]:
            cut = cut_for_outcome(disk, at, told)
            if told not in found:
                self.assertIsNone(cut)
            else:
                self.assertIn(cut, found[told])
                self.assertIs(is_cut_for_outcome(disk, at, told, cut), True)
            for other, made in found.items():
                self.assertIs(is_cut_for_outcome(disk, at, told, made[-1]), told == other)
        self.assertEqual(before, state_of(disk))

    def test_against_all_cuts(self):
        rng = Random(14)
        for _ in range(120):
            disk = Disk(fresh_picture(24))
            for _ in range(rng.randrange(1, 5)):
                kind = rng.randrange(8)
                if kind < 5:
                    block = made_block(5, rng.randrange(1, 4), (rng.randrange(2),) * rng.choice((0, 1, 14, 52)))
                    disk.write(5, block if kind else random_block(rng, 5, (1, 2)))
                elif kind == 5:
                    disk.flush()
                else:
                    disk.lose(5, rng.randrange(4))
            self.check(disk, 5)
            self.check(disk, 4)

    def test_the_first_and_the_last_place(self):
        disk = Disk(fresh_picture(24))
        for at in (0, 23):
            disk.write(at, made_block(at, 1, (3,)))
            self.same(outcomes(disk, at), (("blank",), ("torn",), ("whole", 1, (3,))))
            cut = cut_for_outcome(disk, at, ("whole", 1, (3,)))
            self.same(cut, {(at, part): 0 for part in range(4)})
            self.assertIs(is_cut_for_outcome(disk, at, ("whole", 1, (3,)), cut), True)
            self.assertIs(is_cut_for_outcome(disk, at, ("torn",), cut), False)

    def test_cuts_of_other_places_do_not_matter(self):
        disk = Disk(fresh_picture(24))
        disk.write(5, made_block(5, 1, (3,)))
        for at in range(6, 24):
            disk.write(at, made_block(at, 1, ()))
        self.same(outcomes(disk, 5), (("blank",), ("torn",), ("whole", 1, (3,))))
        cut = {**cut_for_outcome(disk, 5, ("whole", 1, (3,))), (7, 1): 0}
        self.assertIs(is_cut_for_outcome(disk, 5, ("whole", 1, (3,)), cut), True)
        self.assertIs(is_cut_for_outcome(disk, 5, ("torn",), cut), False)

    def test_exactly_and_more_than_20000(self):
        disk = unlike_rows((9, 9, 9, 19))
        self.assertEqual(disk.cut_number, 20000)
        self.same(outcomes(disk, 5)[:2], (("lost",), ("torn",)))
        self.same(told_block(5, disk.after(cut_for_outcome(disk, 5, ("whole", 12, ()))).read(5)), ("whole", 12, ()))
        self.assertIsNone(cut_for_outcome(disk, 5, ("whole", 1, ())))
        disk = unlike_rows((11, 11, 11, 11))
        for told in (("torn",), None, ("whole", True, ())):
            self.refuses(TooMany, 20000, lambda: cut_for_outcome(disk, 5, told))
        self.refuses(TooMany, 20000, lambda: outcomes(disk, 5))
        self.same(outcomes(disk, 6), (("blank",),))
        self.assertIs(is_cut_for_outcome(disk, 5, ("whole", 3, ()), {(5, part): 2 for part in range(4)}), True)
        self.assertIs(is_cut_for_outcome(disk, 5, ("whole", 3, ()), {(5, part): 3 for part in range(4)}), False)

    def test_told_values_that_are_none(self):
        disk = Disk(fresh_picture(24))
        disk.write(5, made_block(5, 8, (1, 2)))
        disk.write(6, made_block(6, 1, (1, 2)))
        for told in list(WRONG_TOLD) + anything():
            if told not in (("torn",), ("blank",)):
                self.assertIsNone(cut_for_outcome(disk, 5, told))
                self.assertIs(is_cut_for_outcome(disk, 5, told, {}), False)
        whole = {(6, part): 0 for part in range(4)}
        self.assertIs(is_cut_for_outcome(disk, 6, ("whole", 1, (1, 2)), whole), True)
        for told in (("whole", True, (1, 2)), ("whole", 1, (True, 2))):
            self.assertIs(is_cut_for_outcome(disk, 6, told, whole), False)
            self.assertIsNone(cut_for_outcome(disk, 6, told))
        for value in anything():
            wanted = value == {}
            self.assertIs(is_cut_for_outcome(disk, 5, ("blank",), value), wanted)

    def test_a_cut_leaves_just_what_was_written(self):
        disk = Disk(fresh_picture(24))
        disk.write(5, made_block(5, 3, (1,) * 20))
        disk.flush()
        for edition, cells in ((5, (2,) * 20), (4, (3,) * 30), (6, ())):
            disk.write(5, made_block(5, edition, cells))
        self.same([told for told in outcomes(disk, 5) if told[0] == "whole"], [
            ("whole", 3, (1,) * 20), ("whole", 4, (3,) * 30), ("whole", 5, (2,) * 20), ("whole", 6, ())])
        twice = Disk(fresh_picture(24))
        twice.write(5, made_block(5, 3, (1,) * 14))
        twice.write(5, made_block(5, 3, (2,) * 14))
        self.assertIn(("whole", 3, (1,) * 13 + (2,)), outcomes(twice, 5))


class LastEdition(Case):
    def test_against_all_sectors(self):
        rng = Random(15)
        for _ in range(150):
            disk = Disk(fresh_picture(24))
            for _ in range(rng.randrange(5)):
                at = rng.randrange(24)
                disk.write(rng.choice((at, 3)), random_block(rng, at, (1, 2, 7, 10 ** 17)))
                if rng.randrange(3) == 0:
                    disk.flush()
                if rng.randrange(3) == 0:
                    disk.lose(at, rng.randrange(4))
            there = [(at, part, disk.settled[at][part]) for at in range(24) for part in range(4)]
            there += [(at, part, value) for (at, part), row in disk.rows.items() for value in row]
            editions = [value[1] for at, part, value in there
                        if value is not None and len(value) > 2 and (value[0], value[2]) == (at, part)]
            self.same(last_edition(disk), max(editions, default=0))

    def test_rows_settled_and_short_sectors(self):
        disk = Disk(fresh_picture(24))
        self.same(last_edition(disk), 0)
        disk.write(5, ((5, 9), (5, 9, 0), (), (6, 9, 3)))
        self.same(last_edition(disk), 0)
        disk.write(5, made_block(5, LAST, ()))
        disk.write(5, made_block(5, 4, ()))
        self.same(last_edition(disk), LAST)
        disk.flush()
        self.same(last_edition(disk), 4)
        disk.write(23, ((), (), (), (23, 5, 3, 1)))
        self.same(last_edition(disk), 5)


class WrongBlocks(WrongCase):
    def test_wrong_inputs(self):
        held = Disk(fresh_picture(24))
        held.write(5, made_block(5, 8, (1, 2)))
        disk = Arg(held, lambda value: isinstance(value, Disk), InvalidDisk)
        place, edition = number(5, 0, 239), number(1, 1, LAST)
        cells = Arg((1,), lambda value: type(value) is tuple and len(value) <= 52 and all(
            type(cell) is int and 0 <= cell <= LAST for cell in value), InvalidBlock, [(1,) * 53, (-1,), (10 ** 18,), [1]])
        block = Arg(BLANK, is_block, InvalidBlock, [BLANK[:3], BLANK + ((),), ((1,) * 17,) * 4, list(BLANK)])
        copies = Arg((BLANK,), lambda value: type(value) is tuple and 1 <= len(value) <= 4 and all(map(is_block, value)),
                     InvalidBlock, [(BLANK,) * 5, (), [BLANK], BLANK, (BLANK, None), (BLANK[:3],)])
        at = number(5, 0, 23)
        free = Arg(("torn",), lambda value: True, None)
        self.wrong_calls(made_block, [place, edition, cells])
        self.wrong_calls(told_block, [place, block])
        self.wrong_calls(told_copies, [place, copies])
        self.wrong_calls(whole_editions, [place, copies])
        self.wrong_calls(last_edition, [disk])
        self.wrong_calls(outcomes, [disk, at], lambda: state_of(held))
        self.wrong_calls(cut_for_outcome, [disk, at, free], lambda: state_of(held))
        self.wrong_calls(is_cut_for_outcome, [disk, at, free, free], lambda: state_of(held))

    def test_too_many_cuts_come_last(self):
        disk = unlike_rows((11, 11, 11, 11))
        self.assertEqual(len(list(cuts(disk.after({})))), 1)
        self.refuses(InvalidNumber, 24, lambda: outcomes(disk, 24))
        self.refuses(InvalidNumber, None, lambda: cut_for_outcome(disk, None, None))
