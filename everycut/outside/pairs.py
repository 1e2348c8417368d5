"""Pairs of disks to which each block is written at one place."""

from everycut.base.checks import check_number
from everycut.base.names import MAX_CELL
from everycut.errors import InvalidDisk
from everycut.errors import InvalidOperation
from everycut.errors import Stopped
from everycut.errors import TooMany
from everycut.outside.blocks import block_made
from everycut.outside.blocks import check_cells
from everycut.outside.blocks import is_told
from everycut.outside.blocks import newest_edition
from everycut.outside.blocks import tell
from everycut.outside.disks import Disk
from everycut.outside.disks import PARTS
from everycut.outside.disks import check_disk
from everycut.outside.disks import fresh_picture
from everycut.outside.disks import is_cut
from everycut.outside.meets import all_told
from everycut.outside.meets import cuts_of_meets
from everycut.outside.meets import meets_for
from everycut.outside.meets import table_of_meets

MOST_ROW = 12

MOST_STOP = 100000


def fresh_pair(size):
    """The pair of two fresh disks of a size."""
    picture = fresh_picture(size)
    return Pair(Disk(picture), Disk(picture))


class Pair:
    """Two disks of one size."""

    def __init__(self, one, other):
        check_disk(one)
        check_disk(other)
        if one.size != other.size:
            raise InvalidOperation("the disks have unlike sizes")
        self._disks = (one, other)
        self._let = None

    @property
    def one(self):
        """The first disk."""
        return self._disks[0]

    @property
    def other(self):
        """The other disk."""
        return self._disks[1]

    @property
    def size(self):
        """The number of blocks of each disk."""
        return len(self._disks[0])

    @property
    def last_edition(self):
        """The greatest edition on one of both disks, 0 if there is none."""
        return max(newest_edition(self._disks[0]), newest_edition(self._disks[1]))

    @property
    def is_flushed(self):
        """Whether all rows are empty."""
        return self._unflushed() == 0

    def _unflushed(self):
        """The number of the sectors of both disks whose rows are not empty."""
        return self._disks[0].unflushed() + self._disks[1].unflushed()

    def _check_at(self, at):
        """Raises InvalidNumber unless the value is the place of a block."""
        check_number(at, 0, len(self._disks[0]) - 1)

    def _count(self):
        """Counts a write or flush of one disk, ahead of it; raises Stopped if it is not let."""
        if self._let is None:
            return
        if self._let == 0:
            raise Stopped("no further write or flush is let")
        self._let -= 1

    def read_block(self, at):
        """What the pair tells at a place."""
        self._check_at(at)
        return tell(at, (self._disks[0].read(at), self._disks[1].read(at)))

    def unlike(self, at):
        """Whether the copies at a place are not alike."""
        self._check_at(at)
        block = self._disks[0].read(at)
        return None in block or block != self._disks[1].read(at)

    def write_block(self, at, cells):
        """Writes the made block with a new edition, and returns the edition."""
        self._check_at(at)
        check_cells(cells)
        edition = self.last_edition + 1
        if edition > MAX_CELL:
            raise TooMany(MAX_CELL)
        block = block_made(at, edition, cells)
        for disk in self._disks:
            self._count()
            disk.write(at, block)
        return edition

    def flush(self):
        """Flushes the first disk and then the other one."""
        for disk in self._disks:
            self._count()
            disk.flush()

    def mend(self, at):
        """Writes the whole block again where it is not read; returns the indices of these disks."""
        told = self.read_block(at)
        if told[0] != "whole":
            raise InvalidOperation("no whole block is told at the place")
        block = block_made(at, told[1], told[2])
        written = []
        for which, disk in enumerate(self._disks):
            if disk.read(at) != block:
                self._count()
                disk.write(at, block)
                written.append(which)
        return tuple(written)

    def is_borne(self, which, at, part):
        """Whether the sector of the disk is settled and not lost, and its loss would be borne."""
        check_number(which, 0, 1)
        self._check_at(at)
        check_number(part, 0, PARTS - 1)
        if self._disks[0].row_at(at, part) or self._disks[1].row_at(at, part):
            return False
        sector = self._disks[0].read(at)[part]
        return sector is not None and sector == self._disks[1].read(at)[part]

    def lose_on(self, which, at, part):
        """The sector of the disk is lost, if that is borne."""
        if not self.is_borne(which, at, part):
            raise InvalidOperation("the loss would not be borne")
        self._disks[which].lose(at, part)

    def behind(self, one_cut, other_cut):
        """A pair of both disks behind their cuts."""
        return Pair(self._disks[0].after(one_cut), self._disks[1].after(other_cut))

    def copied(self):
        """A pair of copied disks."""
        return Pair(self._disks[0].copied(), self._disks[1].copied())

    def stop_after(self, many):
        """Lets so many further writes and flushes of single disks; all, for None."""
        if many is not None:
            check_number(many, 0, MOST_STOP)
        self._let = many

    def __eq__(self, value):
        return isinstance(value, Pair) and self._disks == value._disks

    def __len__(self):
        return len(self._disks[0])

    def __str__(self):
        return f"pair of {len(self._disks[0])} blocks, {self._unflushed()} sectors to flush"


def check_pair(pair):
    """Raises InvalidDisk unless the value is a pair."""
    if not isinstance(pair, Pair):
        raise InvalidDisk("not a pair")


def _tells_alone(pair, disk, at):
    """Whether a disk alone tells what the pair tells at a place, if that is a whole block."""
    told = pair.read_block(at)
    return told[0] != "whole" or tell(at, (disk.read(at),)) == told


def renewed(pair, which):
    """A pair with a fresh disk in the place of one of both."""
    check_pair(pair)
    check_number(which, 0, 1)
    kept = pair.one if which == 1 else pair.other
    if not pair.is_flushed:
        raise InvalidOperation("there are rows")
    if not all([_tells_alone(pair, kept, at) for at in range(pair.size)]):
        raise InvalidOperation("the other disk alone does not tell all whole blocks")
    fresh = Disk(fresh_picture(pair.size))
    return Pair(kept.copied(), fresh) if which == 1 else Pair(fresh, kept.copied())


def _check_rows(pair, at):
    """Raises the errors of the functions that look for what can be told at a place."""
    check_pair(pair)
    check_number(at, 0, pair.size - 1)
    for disk in (pair.one, pair.other):
        for part in range(PARTS):
            if len(disk.row_at(at, part)) > MOST_ROW:
                raise TooMany(MOST_ROW)


def told_behind_cuts(pair, at):
    """The ascending tuple of all that the pair can tell at the place behind any cuts."""
    _check_rows(pair, at)
    return all_told(at, table_of_meets(pair.one, pair.other, at))


def cuts_for_told(pair, at, told):
    """A pair of cuts of sectors of the place behind which it tells what is told; None if there is none."""
    _check_rows(pair, at)
    if not is_told(told):
        return None
    meets = meets_for(at, table_of_meets(pair.one, pair.other, at), told)
    return None if meets is None else cuts_of_meets(at, meets)


def are_cuts_for_told(pair, at, told, value):
    """Whether the value is a pair of cuts of both disks behind which the place tells what is told."""
    check_pair(pair)
    check_number(at, 0, pair.size - 1)
    if not is_told(told) or not isinstance(value, tuple) or len(value) != 2:
        return False
    if not is_cut(pair.one, value[0]) or not is_cut(pair.other, value[1]):
        return False
    return tell(at, (pair.one.block_behind(at, value[0]), pair.other.block_behind(at, value[1]))) == told
