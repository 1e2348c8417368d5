"""Blocks with marks, and what copies of them tell."""

from everycut.base.checks import check_number
from everycut.base.checks import is_number
from everycut.base.names import MAX_CELL
from everycut.base.names import are_cells
from everycut.errors import InvalidBlock
from everycut.errors import TooMany
from everycut.outside.disks import MOST_BLOCKS
from everycut.outside.disks import MOST_CUTS
from everycut.outside.disks import PARTS
from everycut.outside.disks import check_disk
from everycut.outside.disks import is_block
from everycut.outside.disks import is_cut

MARKS = 3
PART_CELLS = 13
MOST_CELLS = 52

MOST_COPIES = 4
LOST = ("lost",)
BLANK_TOLD = ("blank",)
TORN = ("torn",)


def check_place(place):
    """Raises InvalidNumber unless the value is an integer from 0 to 239."""
    check_number(place, 0, MOST_BLOCKS - 1)


def check_cells(cells):
    """Raises InvalidBlock unless the value is a tuple of at most 52 cells."""
    if not are_cells(cells, MOST_CELLS):
        raise InvalidBlock("not a tuple of at most 52 cells")


def check_copies(copies):
    """Raises InvalidBlock unless the value is a tuple of one to four blocks."""
    if not isinstance(copies, tuple) or not 1 <= len(copies) <= MOST_COPIES:
        raise InvalidBlock("not one to four copies")
    if not all([is_block(copy) for copy in copies]):
        raise InvalidBlock("not a block")


def block_made(place, edition, cells):
    """The made block of a place, an edition and cells, which were checked."""
    return tuple([
        (place, edition, part) + cells[PART_CELLS * part:PART_CELLS * (part + 1)]
        for part in range(PARTS)
    ])


def made_block(place, edition, cells):
    """The block with the marks of the place and the edition, and the cells behind them."""
    check_place(place)
    check_number(edition, 1, MAX_CELL)
    check_cells(cells)
    return block_made(place, edition, cells)


def edition_of(place, part, sector):
    """The edition with which a sector fits an index at a place, 0 if it fits with none."""
    if sector is None or len(sector) < MARKS or sector[0] != place or sector[2] != part:
        return 0
    return sector[1]


def _sole_value(place, part, edition, copies):
    """The one value that fits an index with an edition; None if there is none, or several."""
    fitting = [copy[part] for copy in copies if edition_of(place, part, copy[part]) == edition]
    return fitting[0] if len(set(fitting)) == 1 else None


def _whole_cells(place, edition, copies):
    """The cells of an edition that is whole among the copies; None if it is not."""
    values = tuple([_sole_value(place, part, edition, copies) for part in range(PARTS)])
    if None in values:
        return None
    cells = tuple([cell for value in values for cell in value[MARKS:]])
    # A shorter sector ahead of a longer one fits, but no made block has it.
    return cells if block_made(place, edition, cells) == values else None


def wholes(place, copies):
    """The list of the pairs (edition, cells) of all whole editions, ascending; all was checked."""
    editions = sorted(set([edition_of(place, 0, copy[0]) for copy in copies]))
    pairs = [(edition, _whole_cells(place, edition, copies)) for edition in editions if edition > 0]
    return [(edition, cells) for edition, cells in pairs if cells is not None]


def tell(place, copies):
    """What copies tell at a place; all was checked."""
    whole = wholes(place, copies)
    if whole:
        return ("whole", whole[-1][0], whole[-1][1])
    readable = [[copy[part] for copy in copies if copy[part] is not None] for part in range(PARTS)]
    if [] in readable:
        return LOST
    if all([sector == () for sectors in readable for sector in sectors]):
        return BLANK_TOLD
    return TORN


def is_told(value):
    """Whether the value is something that copies can tell at some place."""
    if value in (LOST, BLANK_TOLD, TORN):
        return True
    if not isinstance(value, tuple) or len(value) != 3 or value[0] != "whole":
        return False
    return is_number(value[1], 1, MAX_CELL) and are_cells(value[2], MOST_CELLS)


def told_block(place, block):
    """What one block tells at the place."""
    check_place(place)
    if not is_block(block):
        raise InvalidBlock("not a block")
    return tell(place, (block,))


def told_copies(place, copies):
    """What several copies tell at the place."""
    check_place(place)
    check_copies(copies)
    return tell(place, copies)


def whole_editions(place, copies):
    """The ascending tuple of all whole editions among the copies."""
    check_place(place)
    check_copies(copies)
    return tuple([edition for edition, cells in wholes(place, copies)])


def newest_edition(disk):
    """The greatest edition on a disk, which was checked."""
    newest = 0
    for at, block in enumerate(disk.settled):
        for part, sector in enumerate(block):
            if sector:
                newest = max(newest, edition_of(at, part, sector))
    for (at, part), row in disk.rows.items():
        for sector in row:
            newest = max(newest, edition_of(at, part, sector))
    return newest


def last_edition(disk):
    """The greatest edition of a sector that is settled or in a row, 0 if there is none."""
    check_disk(disk)
    return newest_edition(disk)


def _check_outcomes(disk, at):
    """Raises the errors of the functions that try all cuts of a place."""
    check_disk(disk)
    check_number(at, 0, disk.size - 1)
    number = 1
    for part in range(PARTS):
        number = number * (1 + len(disk.row_at(at, part)))
    if number > MOST_CUTS:
        raise TooMany(MOST_CUTS)


def _cuts_with_blocks(disk, at):
    """The pairs of a cut and the block behind it, one for each block that can come at the place."""
    pairs = [({}, ())]
    for part in range(PARTS):
        ways = disk.ways(at, part)
        pairs = [
            (cut if index is None else {**cut, (at, part): index}, block + (sector,))
            for cut, block in pairs
            for index, sector in ways
        ]
    return pairs


def outcomes(disk, at):
    """The ascending tuple of all that the block at the place can tell behind the cuts."""
    _check_outcomes(disk, at)
    return tuple(sorted(set([tell(at, (block,)) for cut, block in _cuts_with_blocks(disk, at)])))


def cut_for_outcome(disk, at, told):
    """A cut of sectors of the place behind which it tells what is told; None if there is none."""
    _check_outcomes(disk, at)
    if not is_told(told):
        return None
    for cut, block in _cuts_with_blocks(disk, at):
        if tell(at, (block,)) == told:
            return cut
    return None


def is_cut_for_outcome(disk, at, told, value):
    """Whether the value is a cut of the disk behind which the place tells what is told."""
    check_disk(disk)
    check_number(at, 0, disk.size - 1)
    if not is_told(told) or not is_cut(disk, value):
        return False
    return tell(at, (disk.block_behind(at, value),)) == told
