"""Heads: where the tree of the last turn and its shots stand on a pair."""

from everycut.base.checks import check_number
from everycut.base.checks import is_number
from everycut.base.names import MAX_CELL
from everycut.base.names import is_name
from everycut.base.names import name_cell
from everycut.base.names import name_of_cell
from everycut.errors import InvalidOperation
from everycut.errors import Refused
from everycut.outside.blocks import check_cells
from everycut.outside.blocks import tell
from everycut.outside.disks import LEAST_BLOCKS
from everycut.outside.disks import MOST_BLOCKS
from everycut.outside.disks import is_cut
from everycut.outside.pairs import check_pair
from everycut.outside.pairs import cuts_for_told
from everycut.outside.pairs import told_behind_cuts

LEAST_LOG = 4
MAX_LOG = 40
LEAST_SHELF = 16
MAX_SHOTS = 6

HEADS = 2
LEAST_HEAD = 5


def _check_size(size):
    """Raises InvalidNumber unless the value is the size of a pair."""
    check_number(size, LEAST_BLOCKS, MOST_BLOCKS)


def _is_root(size, log, value):
    """Whether the value is 0 or the place of a block of the shelf."""
    return is_number(value, 0, 0) or is_number(value, HEADS + log, size - 1)


def _are_shots(size, log, value):
    """Whether the value is a tuple of at most six pairs of a name and a root, names ascending."""
    if not isinstance(value, tuple) or len(value) > MAX_SHOTS:
        return False
    for shot in value:
        if not isinstance(shot, tuple) or len(shot) != 2:
            return False
        if not is_name(shot[0]) or not _is_root(size, log, shot[1]):
            return False
    return all([value[at - 1][0] < value[at][0] for at in range(1, len(value))])


def _fits(size, value):
    """Whether the value is a head for a pair of the size, which was checked."""
    if not isinstance(value, tuple) or len(value) != LEAST_HEAD:
        return False
    turn, log, number, root, shots = value
    if not is_number(turn, 1, MAX_CELL) or not is_number(number, 1, MAX_CELL):
        return False
    if not is_number(log, LEAST_LOG, min(MAX_LOG, size - HEADS - LEAST_SHELF)):
        return False
    return _is_root(size, log, root) and _are_shots(size, log, shots)


def _check_head(size, head):
    """Raises InvalidOperation unless the value is a head for the size."""
    if not _fits(size, head):
        raise InvalidOperation("not a head for the size")


def is_head(size, value):
    """Whether the value is a head for a pair of the size."""
    _check_size(size)
    return _fits(size, value)


def head_cells(size, head):
    """The cells of a head."""
    _check_size(size)
    _check_head(size, head)
    return _cells_of(head)


def _cells_of(head):
    """The cells of a head, which was checked."""
    shots = [cell for name, root in head[4] for cell in (name_cell(name), root)]
    return head[:4] + (len(head[4]),) + tuple(shots)


def _head_in(size, cells):
    """The head with some cells, None if there is none; all was checked."""
    if len(cells) < LEAST_HEAD or len(cells) != LEAST_HEAD + 2 * cells[4]:
        return None
    places = range(LEAST_HEAD, len(cells), 2)
    shots = tuple([(name_of_cell(cells[at]), cells[at + 1]) for at in places])
    head = cells[:4] + (shots,)
    return head if _fits(size, head) else None


def head_of(size, cells):
    """The head with these cells, None if there is none for the size."""
    _check_size(size)
    check_cells(cells)
    return _head_in(size, cells)


def next_head(size, head, number, root, shots):
    """The head of the next turn, with the same log."""
    _check_size(size)
    _check_head(size, head)
    behind = (head[0] + 1, head[1], number, root, shots)
    _check_head(size, behind)
    return behind


def _seat(head):
    """The place of a head."""
    return head[0] % HEADS


def _head_told(size, at, told):
    """The head that is told by what a pair of the size tells at a seat, None if there is none."""
    head = _head_in(size, told[2]) if told[0] == "whole" else None
    return head if head is not None and _seat(head) == at else None


def _greater(one, other):
    """That of two heads which has the greater turn; each of them can be None."""
    if one is None or other is None:
        return other if one is None else one
    return one if one[0] > other[0] else other


def told_head(pair, at):
    """The head that is told at a seat, None if there is none."""
    check_pair(pair)
    check_number(at, 0, HEADS - 1)
    return _head_told(pair.size, at, pair.read_block(at))


def found_head(pair):
    """The head that is found, None if there is none."""
    return _greater(told_head(pair, 0), told_head(pair, 1))


def write_head(pair, head):
    """Writes the cells of a head to its seat, and returns the edition."""
    check_pair(pair)
    _check_head(pair.size, head)
    found = found_head(pair)
    if found is not None and (head[0] <= found[0] or _seat(head) == _seat(found)):
        raise Refused(("seat", found[0]))
    return pair.write_block(_seat(head), _cells_of(head))


def _told_by_heads(pair):
    """For each seat the dict from the heads that can be told there, or None, to something that tells them."""
    found = []
    for at in range(HEADS):
        told_there = told_behind_cuts(pair, at)
        found.append({_head_told(pair.size, at, told): told for told in told_there})
    return found


def heads_that_can_come(pair):
    """The tuple of all that can be found behind cuts of both disks, each once."""
    first, last = _told_by_heads(pair)
    found = [_greater(one, other) for one in first for other in last]
    heads = sorted(set([head for head in found if head is not None]))
    return ((None,) if None in found else ()) + tuple(heads)


def _check_wanted(pair, head):
    """Raises the errors of the functions about cuts for a head."""
    check_pair(pair)
    if head is not None:
        _check_head(pair.size, head)


def cuts_for_head(pair, head):
    """A pair of cuts of sectors of the seats alone, behind which the head is found; None if there are none."""
    _check_wanted(pair, head)
    first, last = _told_by_heads(pair)
    for one in first:
        for other in last:
            if _greater(one, other) == head:
                cuts_there = cuts_for_told(pair, 0, first[one])
                others = cuts_for_told(pair, 1, last[other])
                return ({**cuts_there[0], **others[0]}, {**cuts_there[1], **others[1]})
    return None


def are_cuts_for_head(pair, head, value):
    """Whether the value is a pair of cuts of both disks behind which the head is found."""
    _check_wanted(pair, head)
    if not isinstance(value, tuple) or len(value) != 2:
        return False
    if not is_cut(pair.one, value[0]) or not is_cut(pair.other, value[1]):
        return False
    heads = []
    for at in range(HEADS):
        copies = (pair.one.block_behind(at, value[0]), pair.other.block_behind(at, value[1]))
        heads.append(_head_told(pair.size, at, tell(at, copies)))
    return _greater(heads[0], heads[1]) == head
