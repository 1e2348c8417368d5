"""Roles of blocks, and room for trees of rows."""

from everycut.base.checks import check_number
from everycut.base.checks import is_number
from everycut.errors import InvalidOperation
from everycut.errors import Refused
from everycut.errors import TooMany
from everycut.outside.disks import MOST_BLOCKS
from everycut.rows.nodes import check_blocks
from everycut.rows.nodes import sound_scan
from everycut.rows.trees import MOST_COUNTED
from everycut.rows.trees import most_blocks

LEAST_SIZE = 24
MOST_SIZE = 240
LEAST_LOG = 4
MOST_LOG = 40
LEAST_SHELF = 16
MOST_ROOTS = 16

HEADS = 2


def _check_sizes(size, log):
    """Raises InvalidNumber unless both are within their bounds."""
    check_number(size, LEAST_SIZE, MOST_SIZE)
    check_number(log, LEAST_LOG, MOST_LOG)


def _check_shelf(size, log):
    """Raises TooMany if the heads and the log leave too few blocks."""
    if size < HEADS + log + LEAST_SHELF:
        raise TooMany(log)


def _check_roots(roots):
    """Raises InvalidOperation unless the value is a tuple of at most sixteen roots."""
    if not isinstance(roots, tuple) or len(roots) > MOST_ROOTS:
        raise InvalidOperation("not at most sixteen roots")
    if not all([is_number(root, 0, MOST_BLOCKS - 1) for root in roots]):
        raise InvalidOperation("not a root")


def _reached(blocks, roots):
    """The dict from the places that are reached, ascending, to the tuples of the indices of their roots."""
    found = {}
    for index, root in enumerate(roots):
        for place in sound_scan(blocks, root).places:
            found.setdefault(place, []).append(index)
    return {place: tuple(found[place]) for place in sorted(found)}


def shelf_places(size, log):
    """The ascending tuple of the places of the shelf."""
    _check_sizes(size, log)
    _check_shelf(size, log)
    return tuple(range(HEADS + log, size))


def reached_by(blocks, roots):
    """The dict from the places that are reached to the tuples of the indices of their roots."""
    check_blocks(blocks)
    _check_roots(roots)
    return _reached(blocks, roots)


def held_alone(blocks, roots, at):
    """The ascending tuple of the places that one root reaches and no other one."""
    check_blocks(blocks)
    _check_roots(roots)
    check_number(at, 0, len(roots) - 1)
    return tuple([place for place, indices in _reached(blocks, roots).items() if indices == (at,)])


def owners(size, log, blocks, roots):
    """The tuple of the roles of all places."""
    _check_sizes(size, log)
    check_blocks(blocks)
    _check_roots(roots)
    _check_shelf(size, log)
    reached = _reached(blocks, roots)
    wrong = [place for place in reached if not HEADS + log <= place < size]
    if wrong:
        raise Refused(("role", wrong[0]))
    shelf = ["rows" if place in reached else "free" for place in range(HEADS + log, size)]
    return tuple(["head"] * HEADS + ["log"] * log + shelf)


def free_places(size, log, blocks, roots):
    """The ascending tuple of the free places."""
    roles = owners(size, log, blocks, roots)
    return tuple([place for place, role in enumerate(roles) if role == "free"])


def _check_room(shelf, shots):
    """Raises InvalidNumber or InvalidOperation unless both are as the room for rows asks."""
    check_number(shelf, LEAST_SHELF, MOST_SIZE)
    if not isinstance(shots, tuple) or len(shots) > MOST_ROOTS:
        raise InvalidOperation("not at most sixteen numbers of rows")
    if not all([is_number(many, 0, MOST_COUNTED) for many in shots]):
        raise InvalidOperation("not a number of rows")


def is_room(shelf, shots, last, now):
    """Whether so many rows fit; the numbers were checked."""
    held = sum([most_blocks(many) for many in shots])
    return held + most_blocks(now) + most_blocks(max(last, now)) <= shelf


def does_fit(shelf, shots, last, now):
    """Whether so many rows fit into a shelf beside its snapshots and the tree of the last turn."""
    _check_room(shelf, shots)
    check_number(last, 0, MOST_COUNTED)
    check_number(now, 0, MOST_COUNTED)
    return is_room(shelf, shots, last, now)


def most_rows(shelf, shots, last):
    """The greatest number of rows that fits, None if not even 0 does."""
    _check_room(shelf, shots)
    check_number(last, 0, MOST_COUNTED)
    if not is_room(shelf, shots, last, 0):
        return None
    now = 0
    while is_room(shelf, shots, last, now + 1):
        now += 1
    return now
