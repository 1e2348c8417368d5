"""Nodes of search trees, and the scan that takes them and finds their faults."""

from everycut.base.checks import check_number
from everycut.base.checks import is_number
from everycut.base.names import are_cells
from everycut.errors import InvalidBlock
from everycut.errors import Refused
from everycut.outside.blocks import MOST_CELLS
from everycut.outside.disks import MOST_BLOCKS
from everycut.rows.cells import rows_in_cells

MOST_LEVEL = 4
LEAST_LEAF = 2
MOST_LEAF = 3
LEAST_INNER = 4
MOST_INNER = 8
LEAST_TOP_LEAF = 1
LEAST_TOP_INNER = 2


def are_blocks(value):
    """Whether the value is a dict from integers from 0 to 239 to tuples of at most 52 cells."""
    if not isinstance(value, dict):
        return False
    places = list(value)
    if not all([is_number(place, 0, MOST_BLOCKS - 1) for place in places]):
        return False
    return all([are_cells(cells, MOST_CELLS) for cells in value.values()])


def check_blocks(blocks):
    """Raises InvalidBlock unless the value is blocks that can be read."""
    if not are_blocks(blocks):
        raise InvalidBlock("not a dict from places to cells")


def check_root(root):
    """Raises InvalidNumber unless the value is a place, or 0."""
    check_number(root, 0, MOST_BLOCKS - 1)


def _is_place(value):
    """Whether the value of a row is one cell, the place of a node."""
    return len(value) == 1 and value[0] < MOST_BLOCKS


def node_in_cells(cells):
    """The pair of the level and the members of a node, None if the cells tell none; they were checked."""
    if len(cells) < 2 or cells[0] > MOST_LEVEL:
        return None
    members = rows_in_cells(cells[2:])
    if members is None or len(members) != cells[1]:
        return None
    if cells[0] > 0 and not all([_is_place(value) for _, value in members]):
        return None
    return (cells[0], members)


def most_members(level):
    """How many members a node of a level has at most."""
    return MOST_LEAF if level == 0 else MOST_INNER


def least_members(level, is_top):
    """How few members a node of a level has at least."""
    if is_top:
        return LEAST_TOP_LEAF if level == 0 else LEAST_TOP_INNER
    return LEAST_LEAF if level == 0 else LEAST_INNER


def _do_keys_fit(members, low, high):
    """Whether the first key of some members is as told, and the last one below the next one."""
    if low is not None and members[0][0] != low:
        return False
    return high is None or members[-1][0] < high


class Scan:
    """The nodes below a root that are taken, leaves among them, their rows, and all faults in their sequence."""

    def __init__(self, blocks):
        self.blocks = blocks
        self.taken = []
        self.places = []
        self.leaves = []
        self.faults = []

    def visit(self, place, above, low, high):
        """Looks at a node and all below it.

        What the nodes above tell is the level of the one above, the least key, and the key that is
        not reached any more; each of them is None where nothing is told.
        """
        node = node_in_cells(self.blocks[place]) if place in self.blocks else None
        word = self.fault_word(place, node, above, low, high)
        if word is not None:
            self.faults.append((word, place))
        if word not in (None, "few") or not node[1] or not _do_keys_fit(node[1], low, high):
            return
        self.places.append(place)
        level, members = node
        if level == 0:
            self.taken.extend(members)
            self.leaves.append(place)
            return
        for at, (key, value) in enumerate(members):
            following = members[at + 1][0] if at + 1 < len(members) else high
            self.visit(value[0], level, key, following)

    def fault_word(self, place, node, above, low, high):
        """The word of the first fault of a node that applies, None if it has none."""
        if place not in self.blocks:
            return "lost"
        if node is None:
            return "cells"
        level, members = node
        if above is not None and level != above - 1:
            return "level"
        if not least_members(level, above is None) <= len(members) <= most_members(level):
            return "few"
        return None if _do_keys_fit(members, low, high) else "key"


def scanned(blocks, root):
    """The scan of the tree of a root; all was checked."""
    scan = Scan(blocks)
    if root != 0:
        scan.visit(root, None, None, None)
    return scan


def sound_scan(blocks, root):
    """The scan of the tree of a root; raises Refused with its first fault."""
    scan = scanned(blocks, root)
    if scan.faults:
        raise Refused(scan.faults[0])
    return scan
