"""Sectors, blocks, pictures, disks, their cuts, and scripts."""

from everycut.base.checks import check_number
from everycut.base.checks import is_number
from everycut.base.names import are_cells
from everycut.errors import InvalidBlock
from everycut.errors import InvalidCut
from everycut.errors import InvalidDisk
from everycut.errors import InvalidOperation
from everycut.errors import InvalidPicture
from everycut.errors import TooMany

LEAST_BLOCKS = 24
MOST_BLOCKS = 240
MOST_CUTS = 20000
MOST_STEPS = 200

PARTS = 4
SECTOR_CELLS = 16
BLANK = ((), (), (), ())
BARE = (BLANK,) * LEAST_BLOCKS


def is_sector(value):
    """Whether the value is a tuple of at most 16 cells, or None, a lost sector."""
    return value is None or are_cells(value, SECTOR_CELLS)


def is_block(value):
    """Whether the value is a tuple of four sectors."""
    if not isinstance(value, tuple) or len(value) != PARTS:
        return False
    return all([is_sector(sector) for sector in value])


def is_picture(value):
    """Whether the value is a tuple of 24 to 240 blocks."""
    if not isinstance(value, tuple) or not LEAST_BLOCKS <= len(value) <= MOST_BLOCKS:
        return False
    return all([is_block(block) for block in value])


def check_picture(picture):
    """Raises InvalidPicture unless the value is a picture."""
    if not is_picture(picture):
        raise InvalidPicture("not a picture")


def fresh_picture(size):
    """The picture with () in all sectors."""
    check_number(size, LEAST_BLOCKS, MOST_BLOCKS)
    return (BLANK,) * size


def is_full_block(value):
    """Whether the value is a block without a lost sector."""
    return is_block(value) and None not in value


def with_sector(block, part, sector):
    """The block with another sector at one index."""
    return block[:part] + (sector,) + block[part + 1:]


class Disk:
    """A picture that is settled, and a row of unflushed values for each sector."""

    def __init__(self, picture):
        # Twins are made from BARE: to compare with it is far quicker than to judge it.
        if picture != BARE:
            check_picture(picture)
        self._blocks = list(picture)
        self._waiting = {}

    @property
    def size(self):
        """The number of blocks."""
        return len(self._blocks)

    @property
    def settled(self):
        """The picture that is settled."""
        return tuple(self._blocks)

    @property
    def rows(self):
        """The dict from the sectors whose rows are not empty to these."""
        return {sector: tuple(self._waiting[sector]) for sector in sorted(self._waiting)}

    @property
    def seen(self):
        """The picture of all that is read."""
        blocks = list(self._blocks)
        for at, part in self._waiting:
            blocks[at] = with_sector(blocks[at], part, self._waiting[(at, part)][-1])
        return tuple(blocks)

    @property
    def cut_number(self):
        """The number of all cuts."""
        number = 1
        for row in self._waiting.values():
            number = number * (1 + len(row))
        return number

    @property
    def picture_number(self):
        """The number of the unlike pictures that can come."""
        number = 1
        for at, part in self._waiting:
            number = number * len(self.ways(at, part))
        return number

    def row_at(self, at, part):
        """The row of a sector; at and part were checked."""
        return tuple(self._waiting.get((at, part), ()))

    def ways(self, at, part):
        """All unlike values that can come at a sector, as pairs (index, value).

        The index is the least one in the row, None for what is settled; at and part were checked.
        """
        found = {self._blocks[at][part]: None}
        for index, sector in enumerate(self.row_at(at, part)):
            if sector not in found:
                found[sector] = index
        return [(index, sector) for sector, index in found.items()]

    def unflushed(self):
        """The number of the sectors whose rows are not empty."""
        return len(self._waiting)

    def read(self, at):
        """The block that is read at a place."""
        check_number(at, 0, len(self._blocks) - 1)
        block = self._blocks[at]
        for part in range(PARTS):
            row = self._waiting.get((at, part), ())
            if row:
                block = with_sector(block, part, row[-1])
        return block

    def write(self, at, block):
        """Puts the sectors of the block behind the rows of the sectors at the place."""
        check_number(at, 0, len(self._blocks) - 1)
        if not is_full_block(block):
            raise InvalidBlock("not a block without lost sectors")
        for part, sector in enumerate(block):
            self._waiting.setdefault((at, part), []).append(sector)

    def flush(self):
        """Settles all that is read, and empties all rows."""
        self._blocks = list(self.seen)
        self._waiting = {}

    def lose(self, at, part):
        """The sector is lost: it becomes None, with an empty row."""
        check_number(at, 0, len(self._blocks) - 1)
        check_number(part, 0, PARTS - 1)
        self._blocks[at] = with_sector(self._blocks[at], part, None)
        if (at, part) in self._waiting:
            del self._waiting[(at, part)]

    def block_behind(self, at, cut):
        """The block that is settled at a place behind a cut; both were checked."""
        block = self._blocks[at]
        for part in range(PARTS):
            if (at, part) in cut:
                block = with_sector(block, part, self._waiting[(at, part)][cut[(at, part)]])
        return block

    def after(self, cut):
        """A disk on which the picture behind the cut is settled."""
        if not is_cut(self, cut):
            raise InvalidCut("not a cut of the disk")
        blocks = list(self._blocks)
        for at, part in cut:
            blocks[at] = self.block_behind(at, cut)
        twin = Disk(BARE)
        twin._blocks = blocks
        return twin

    def copied(self):
        """A disk with the same settled picture and rows."""
        twin = Disk(BARE)
        twin._blocks = list(self._blocks)
        twin._waiting = {sector: list(row) for sector, row in self._waiting.items()}
        return twin

    def is_sure(self, at, part):
        """Whether some value is sure at the sector."""
        check_number(at, 0, len(self._blocks) - 1)
        check_number(part, 0, PARTS - 1)
        return len(self.ways(at, part)) == 1

    def __eq__(self, value):
        return isinstance(value, Disk) and self._blocks == value._blocks and self._waiting == value._waiting

    def __len__(self):
        return len(self._blocks)

    def __str__(self):
        return f"disk of {len(self._blocks)} blocks, {len(self._waiting)} sectors to flush"


def check_disk(disk):
    """Raises InvalidDisk unless the value is a disk."""
    if not isinstance(disk, Disk):
        raise InvalidDisk("not a disk")


def is_sector_place(value, size):
    """Whether the value is a pair (at, part) of a sector of so many blocks."""
    if not isinstance(value, tuple) or len(value) != 2:
        return False
    return is_number(value[0], 0, size - 1) and is_number(value[1], 0, PARTS - 1)


def is_cut(disk, value):
    """Whether the value is a cut of the disk."""
    check_disk(disk)
    if not isinstance(value, dict):
        return False
    for sector, index in value.items():
        if not is_sector_place(sector, disk.size):
            return False
        if not is_number(index, 0, len(disk.row_at(sector[0], sector[1])) - 1):
            return False
    return True


def cuts(disk):
    """Yields all cuts as a row of counters counts, the counter of the last sector turning first."""
    check_disk(disk)
    number = disk.cut_number
    if number > MOST_CUTS:
        raise TooMany(MOST_CUTS)
    lengths = [(sector, len(row)) for sector, row in disk.rows.items()]
    for count in range(number):
        yield _cut_of_count(lengths, count)


def _cut_of_count(lengths, count):
    """The cut that comes behind so many other ones, for sectors with rows of these lengths."""
    counters = []
    left = count
    for sector, length in lengths[::-1]:
        counters.append((sector, left % (1 + length)))
        left = left // (1 + length)
    # The counter 0 stands for no index.
    return {sector: counter - 1 for sector, counter in counters[::-1] if counter > 0}


def _least_cut(disk, picture):
    """The least cut to a picture of as many blocks, None if it cannot come."""
    cut = {}
    for at, block in enumerate(disk.settled):
        if block == picture[at]:
            continue
        for part, sector in enumerate(block):
            if sector == picture[at][part]:
                continue
            row = disk.row_at(at, part)
            if picture[at][part] not in row:
                return None
            cut[(at, part)] = row.index(picture[at][part])
    return cut


def cut_to(disk, picture):
    """The least cut to a picture, None if it cannot come."""
    check_disk(disk)
    check_picture(picture)
    if len(picture) != disk.size:
        return None
    return _least_cut(disk, picture)


def can_come(disk, picture):
    """Whether the picture can come of the disk by some cut."""
    return cut_to(disk, picture) is not None


def _is_step(size, value):
    """Whether the value is a step that can be done on a disk of so many blocks."""
    if not isinstance(value, tuple) or not value:
        return False
    if value[0] == "write" and len(value) == 3:
        return is_number(value[1], 0, size - 1) and is_full_block(value[2])
    if value[0] == "lose" and len(value) == 3:
        return is_sector_place(value[1:], size)
    return value == ("flush",)


def is_script(picture, value):
    """Whether the value is a script for the picture."""
    check_picture(picture)
    if not isinstance(value, tuple) or len(value) > MOST_STEPS:
        return False
    return all([_is_step(len(picture), step) for step in value])


def check_script(picture, script):
    """Raises InvalidPicture or InvalidOperation unless the script is one for the picture."""
    if not is_script(picture, script):
        raise InvalidOperation("not a script for the picture")


def _do_step(disk, step):
    """Does a step of a script on the disk."""
    if step[0] == "write":
        disk.write(step[1], step[2])
    elif step[0] == "lose":
        disk.lose(step[1], step[2])
    else:
        disk.flush()


def _run(picture, steps):
    """The disk behind steps that can be done."""
    disk = Disk(picture)
    for step in steps:
        _do_step(disk, step)
    return disk


def run_script(picture, script):
    """The disk behind all steps of the script."""
    check_script(picture, script)
    return _run(picture, script)


def _check_goal(picture, script, goal):
    """Raises the errors of the functions that look for a goal."""
    check_script(picture, script)
    check_picture(goal)
    if len(goal) != len(picture):
        raise InvalidOperation("the goal has another number of blocks")


def moment_of(picture, script, goal):
    """The first moment at which the goal can come, and the least cut there; None if there is none."""
    _check_goal(picture, script, goal)
    disk = Disk(picture)
    for moment in range(len(script) + 1):
        if moment > 0:
            _do_step(disk, script[moment - 1])
        cut = _least_cut(disk, goal)
        if cut is not None:
            return (moment, cut)
    return None


def is_moment_of(picture, script, goal, value):
    """Whether the value is a pair of a moment and a cut that leads to the goal there."""
    _check_goal(picture, script, goal)
    if not isinstance(value, tuple) or len(value) != 2 or not is_number(value[0], 0, len(script)):
        return False
    disk = _run(picture, script[:value[0]])
    return is_cut(disk, value[1]) and disk.after(value[1]).settled == goal
